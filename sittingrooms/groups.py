"""Sets of papers, of rooms or of invigilators: rising lists of their numbers, from 1 on."""


def bit_of(number):
    return 1 << (number - 1)


def members_of(bits, how_many):
    return [number for number in range(1, how_many + 1) if bits & bit_of(number)]


def all_groups(how_many):
    """All sets; the one whose bits are n stands at place n."""
    return [members_of(bits, how_many) for bits in range(1 << how_many)]


def size_then_first(group):
    return (len(group), group)


def groups_in_order(how_many):
    """All sets, smaller ones first; of one size the one that has the first number first, and so on."""
    return sorted(all_groups(how_many), key=size_then_first)
