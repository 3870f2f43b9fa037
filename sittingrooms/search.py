"""The best timetable and the core, by trying sittings paper by paper.

To take a paper out of a right timetable leaves it right, so a timetable that is wrong
when some papers are put need not be tried with more.
"""

from sittingrooms.groups import all_groups
from sittingrooms.groups import bit_of
from sittingrooms.groups import groups_in_order
from sittingrooms.rules import can_be_seated
from sittingrooms.rules import entered_among
from sittingrooms.rules import in_common
from sittingrooms.rules import longest_time


def may_share_sitting(office, papers):
    for p in papers:
        for q in papers:
            if p < q and in_common(office, p, q) > 0:
                return False
    return can_be_seated(office, papers)


def may_share_day(office, papers):
    return all([entered_among(each, papers) <= office.per_day for each in office.candidates.values()])


def long_enough(office, paper):
    longest = longest_time(office, paper)
    return [number for number, sitting in enumerate(office.sittings, start=1) if sitting.minutes >= longest]


class Plan:
    """What the search asks over and over, worked out once, with sets of papers as bits."""

    def __init__(self, office):
        how_many = len(office.paper_minutes)
        sets = all_groups(how_many)
        self.days = [sitting.day for sitting in office.sittings]
        self.sitting_right = [may_share_sitting(office, papers) for papers in sets]
        self.day_right = [may_share_day(office, papers) for papers in sets]
        self.choices = [long_enough(office, paper) for paper in range(1, how_many + 1)]
        self.ahead_of = [0] * how_many
        self.behind = [0] * how_many
        for p, q in office.orders:
            self.ahead_of[q - 1] |= bit_of(p)
            self.behind[p - 1] |= bit_of(q)


def in_order(plan, held, paper, sitting):
    up_to_here = sum(held[:sitting])
    from_here = sum(held[sitting - 1:])
    return not (plan.ahead_of[paper - 1] & from_here or plan.behind[paper - 1] & up_to_here)


def still_right(plan, held, paper, sitting):
    """Whether what the sittings hold is right, if it was before the paper was put into the sitting."""
    if not plan.sitting_right[held[sitting - 1]]:
        return False
    day = plan.days[sitting - 1]
    of_day = sum([bits for bits, other in zip(held, plan.days) if other == day])
    return plan.day_right[of_day] and in_order(plan, held, paper, sitting)


def put_into(held, paper, sitting):
    after = list(held)
    after[sitting - 1] += bit_of(paper)
    return after


def place(plan, papers, held, limit):
    """The papers' sittings, the first way that is right with at most limit sittings used; None if there's no way."""
    if not papers:
        return []
    for sitting in plan.choices[papers[0] - 1]:
        after = put_into(held, papers[0], sitting)
        used = len(after) - after.count(0)
        if used <= limit and still_right(plan, after, papers[0], sitting):
            others = place(plan, papers[1:], after, limit)
            if others is not None:
                return [sitting] + others
    return None


def first_timetable(plan, papers, limit):
    return place(plan, papers, [0] * len(plan.days), limit)


def best_timetable(office):
    """The best timetable; None if there's none."""
    plan = Plan(office)
    papers = list(range(1, len(office.paper_minutes) + 1))
    for limit in range(len(office.sittings) + 1):
        found = first_timetable(plan, papers, limit)
        if found is not None:
            return found
    return None


def core_papers(office, limit):
    """The first set of papers that no right timetable puts into at most limit sittings; None if there's none."""
    plan = Plan(office)
    for papers in groups_in_order(len(office.paper_minutes)):
        if first_timetable(plan, papers, limit) is None:
            return papers
    return None
