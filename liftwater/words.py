"""The words that stand in stands, deeds, faults, endings and trips."""

LOW = "low"
HIGH = "high"

FILL = "fill"
EMPTY = "empty"
RAISE = "raise"
LOWER = "lower"

SHUT = "shut"
DRY = "dry"
LACK = "lack"
FOR_EVER = "for ever"

UP = "up"
DOWN = "down"
TURN = "turn"
LOAD = "load"
UNLOAD = "unload"
CARRY = "carry"
RAIN = "rain"
DRAW = "draw"
