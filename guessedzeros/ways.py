"""The four ways of rounding, and the flags that a reckoning may raise."""

NEAR = "near"
CUT = "cut"
UP = "up"
DOWN = "down"

WAYS = ("near", "cut", "up", "down")

FLAGS = ("bad", "bynought", "over", "under", "rounded")
