"""The words that stand in stands, deeds and faults."""

LOW = "low"
HIGH = "high"

FILL = "fill"
EMPTY = "empty"
RAISE = "raise"
LOWER = "lower"

SHUT = "shut"
DRY = "dry"
