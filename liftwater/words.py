"""The words that stand in stands, deeds, faults and endings."""

LOW = "low"
HIGH = "high"

FILL = "fill"
EMPTY = "empty"
RAISE = "raise"
LOWER = "lower"

SHUT = "shut"
DRY = "dry"
FOR_EVER = "for ever"
