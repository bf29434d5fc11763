"""The calls by their numbers, and the ranges of the numbers told with them."""

OPEN = 0
COIN = 1
THING = 2
ACCOUNT = 3
RATE = 4
ENTRY = 5
CORRECT = 6
MOVE = 7
REVALUE = 8
CLOSE = 9
PASS = 10
BALANCE = 11
LOTS = 12
WORTH = 13
TREE = 14
TRIAL = 15
ENTRY_INFO = 16
KNOWN = 17
KNOWN_ON = 18
GAINS = 19
WOULD = 20
RATE_ON = 21
UNIT = 22
ACCOUNT_TOLD = 23
STATE = 24

# By the call's number: the kinds of its numbers, and for an entry those of one line.
KINDS = {
    0: (),
    1: (),
    2: ("unit",),
    3: ("unit", "parent", "rule"),
    4: ("unit", "share", "share"),
    5: ("account", "amount", "amount", "amount"),
    6: ("entry",),
    7: ("account", "account", "amount"),
    8: (),
    9: (),
    10: ("days",),
    11: ("account",),
    12: ("account",),
    13: ("account", "day"),
    14: ("account",),
    15: (),
    16: ("entry",),
    17: ("account", "entries"),
    18: ("account", "day"),
    19: (),
    20: ("account", "amount", "amount", "amount"),
    21: ("unit", "day"),
    22: ("unit",),
    23: ("account",),
    24: (),
}

LOWEST = {
    "unit": 1,
    "parent": 0,
    "rule": 0,
    "share": 1,
    "account": 1,
    "amount": -1000000000,
    "entry": 1,
    "entries": 0,
    "day": 0,
    "days": 1,
}

HIGHEST = {
    "unit": 10,
    "parent": 24,
    "rule": 4,
    "share": 1000000,
    "account": 24,
    "amount": 1000000000,
    "entry": 150,
    "entries": 150,
    "day": 3999,
    "days": 1000,
}

MOST_LINES = 6


# For an entry: of one line.
def length_of(call):
    return len(KINDS[call])


def length_fits(call, numbers):
    many = length_of(call)
    if call != ENTRY:
        return len(numbers) == many
    return len(numbers) % many == 0 and many <= len(numbers) <= many * MOST_LINES


def numbers_fit(call, numbers):
    if not length_fits(call, numbers):
        return False
    for place, number in enumerate(numbers):
        kind = KINDS[call][place % length_of(call)]
        if number < LOWEST[kind] or number > HIGHEST[kind]:
            return False
    return True
