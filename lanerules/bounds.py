"""The limits of the package."""

MAX_LANES = 6
MAX_CARS = 40
SMALL = 8
BATCH = 20
HISTORY = 30
