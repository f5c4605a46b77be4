"""The numbers by which a call is refused."""

NO_SUCH_PLACE = -1
EMPTY_PLACE = -2
WRONG_KIND = -3
BAD_RADIUS = -4
BAD_COUNT = -5
OUT_OF_RANGE = -6
NO_SKELETON = -7
BAD_DISTANCE = -8
NO_OTHER_SHAPE = -9
