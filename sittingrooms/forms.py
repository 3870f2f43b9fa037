"""How calls stand in the one list that is handed in, and the ranges of their numbers."""

# Two numbers are the range of a plain argument. Four are a list: the range of its length, then of its numbers.
FORMS = {
    0: ((1, 4), (1, 30)),
    1: ((1, 30), (0, 1439), (1, 600)),
    2: ((1, 300),),
    3: ((0, 1), (1, 6, 1, 10)),
    4: ((1, 1000000000), (1, 1000000000), (0, 100)),
    5: ((1, 1000000000), (1, 6)),
    6: ((1, 1000000000), (1, 6)),
    7: ((1, 6), (1, 6)),
    8: ((1, 1000000000), (1, 1000000000)),
    9: ((1, 1000000000), (1, 6)),
    10: (),
    11: (),
    12: ((0, 5),),
    13: ((0, 6, 0, 5),),
    14: ((0, 6, 0, 5),),
    15: ((1, 6), (0, 5)),
    16: ((1, 5),),
    17: ((1, 1000000000), (1, 5)),
    18: ((1, 5),),
    19: (),
    20: ((1, 1000000000),),
    21: ((1, 6),),
    22: ((1, 1000000000),),
    23: ((1, 6), (0, 5)),
    24: (),
}


def is_list(part):
    return len(part) == 4


def read_calls(calls):
    """The calls one by one, each as its number and what is told: plain numbers, and lists as lists."""
    found = []
    at = 0
    while at < len(calls):
        number = calls[at]
        told = []
        at += 1
        for part in FORMS[number]:
            if is_list(part):
                size = calls[at]
                told.append(calls[at + 1:at + 1 + size])
                at += 1 + size
            else:
                told.append(calls[at])
                at += 1
        found.append((number, told))
    return found


def part_in_range(part, value):
    if not is_list(part):
        return part[0] <= value <= part[1]
    if not part[0] <= len(value) <= part[1]:
        return False
    return all([part[2] <= each <= part[3] for each in value])


def in_range(number, told):
    return all([part_in_range(part, value) for part, value in zip(FORMS[number], told)])
