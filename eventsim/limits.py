"""How many of each there may be, and how great numbers may become."""

MOST_RESOURCES = 4
MOST_STORES = 3
MOST_CAPACITY = 4
MOST_GATES = 3
MOST_SCRIPTS = 6
MOST_TIMES = 5
MOST_DEPTH = 3
MOST_FACTOR = 9

LAST_PROCESS = 5
LAST_RANK = 9
LAST_ITEM = 99
LAST_MARK = 999
LAST_TIME = 200

# How many digits a number may have in a text, and in the text of a model.
MOST_DIGITS = 12
MOST_DIGITS_IN_MODELS = 4000
