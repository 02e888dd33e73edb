"""The numbers that bound addresses, trees and machines."""

SPACE = 2 ** 48
NEAR = 2 ** 32
LEAST = 16
GRAIN = 4096

MAX_ROOM = 128
MAX_SIZES = 40
MAX_AREAS = 4
MAX_PARTS = 8
MAX_DEVICES = 16
MAX_BRIDGES = 8
MAX_DEPTH = 6

SMALL = 12
ONES = 2 ** 32 - 1
MAX_EDITS = 40
BATCH = 10

MAX_FAR = 2 ** 40
MAX_NEAR = 2 ** 31
