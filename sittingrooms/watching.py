"""Which invigilators are in which rooms of a sitting, or which of them are short."""

from sittingrooms.groups import groups_in_order
from sittingrooms.seating import seated_rooms
from sittingrooms.seating import seats_of


class Need:
    """How many invigilators a room wants still, and the ids of those who may be there and aren't in a room yet."""

    def __init__(self, wanted, able):
        self.wanted = wanted
        self.able = able


def need_of(office, people):
    centres = [office.candidates[who].centre for who in people]
    able = [who for who, centre in office.invigilators.items() if centre not in centres]
    return Need((len(people) + office.ratio - 1) // office.ratio, able)


def needs_of_rooms(office, sitting):
    needs = []
    for rows in seated_rooms(office, sitting):
        needs.append(need_of(office, [who for who in seats_of(rows) if who > 0]))
    return needs


def is_short(members, needs):
    missing = 0
    for need in needs:
        outside = [who for who in need.able if who not in members]
        missing += max(0, need.wanted - len(outside))
    return missing > len(members)


def first_short_set(everybody, needs):
    """The first set of invigilators that is short; None if none is."""
    for places in groups_in_order(len(everybody)):
        members = [everybody[place - 1] for place in places]
        if is_short(members, needs):
            return members
    return None


def can_be_met(needs):
    """Whether every room can have all it wants: no group of rooms wants more than may be in one of its rooms.

    That is so just if no set of invigilators is short, and there are far fewer groups of rooms than such sets.
    """
    for places in groups_in_order(len(needs)):
        wanted = 0
        able = []
        for place in places:
            wanted += needs[place - 1].wanted
            able.extend(needs[place - 1].able)
        if wanted > len(set(able)):
            return False
    return True


def after_one_came(needs, place, who):
    """What is needed once this invigilator is in the room at this place."""
    after = [Need(need.wanted, [other for other in need.able if other != who]) for need in needs]
    there = after[place]
    there.wanted -= 1
    return after


def send_one(needs, place):
    """The first one who can go to the room at this place such that all the rest can be met; None if nobody can."""
    for who in needs[place].able:
        if can_be_met(after_one_came(needs, place, who)):
            return who
    return None


def send_all(needs):
    """A room and an id for each want, room by room, where all can be met."""
    sent = []
    left = needs
    for place, need in enumerate(needs):
        for turn in range(need.wanted):
            who = send_one(left, place)
            sent.extend([place + 1, who])
            left = after_one_came(left, place, who)
    return sent


def watch(office, sitting):
    """1, then a room and an id for each want; or 0, then the ids of the first short set."""
    needs = needs_of_rooms(office, sitting)
    if can_be_met(needs):
        return [1] + send_all(needs)
    return [0] + first_short_set(list(office.invigilators), needs)
