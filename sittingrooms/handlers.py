"""What each call does with an office, and what it answers."""

from sittingrooms.forms import in_range
from sittingrooms.rules import days_of_sittings
from sittingrooms.rules import entered_among
from sittingrooms.rules import entered_ids
from sittingrooms.rules import how_wrong
from sittingrooms.rules import in_common
from sittingrooms.rules import longest_time
from sittingrooms.rules import papers_of_day
from sittingrooms.rules import time_for
from sittingrooms.search import best_timetable
from sittingrooms.search import core_papers
from sittingrooms.seating import find_seat
from sittingrooms.seating import seated_rooms
from sittingrooms.seating import seats_of
from sittingrooms.state import Candidate
from sittingrooms.state import Room
from sittingrooms.state import Sitting
from sittingrooms.watching import watch

OUT_OF_RANGE = -1
NOT_OPEN = -2
NO_CANDIDATE = -3
NO_PAPER = -4
NO_SITTING = -5
OPEN_ALREADY = -6
AS_MANY_AS_CAN_BE = -7
BEGINS_TOO_EARLY = -8
ID_TAKEN = -9
WOULD_BE_WRONG = -10
TOLD_ALREADY = -11
NOT_ENTERED = -12
SAME_PAPER = -13
NOT_ONE_EACH = -14

MOST_SITTINGS = 5
MOST_PAPERS = 6
MOST_ROOMS = 4
MOST_CANDIDATES = 30
MOST_ORDERS = 10
MOST_INVIGILATORS = 8

OPEN_CALL = 0


def is_paper(office, paper):
    return paper <= len(office.paper_minutes)


def is_sitting(office, sitting):
    return sitting <= len(office.sittings)


def sittings_used(timetable):
    return len(set([sitting for sitting in timetable if sitting > 0]))


def refuse_entry(office, who, paper):
    """The refusals of all calls that name a candidate and a paper; empty if neither applies."""
    if who not in office.candidates:
        return [NO_CANDIDATE]
    if not is_paper(office, paper):
        return [NO_PAPER]
    return []


def open_office(office, told):
    if office.is_open:
        return [OPEN_ALREADY]
    office.is_open = True
    office.per_day = told[0]
    office.ratio = told[1]
    return [0]


def begins_as_told(office, day, beginning):
    if not office.sittings:
        return True
    last = office.sittings[-1]
    return day > last.day or (day == last.day and beginning >= last.beginning + last.minutes)


def add_sitting(office, told):
    if len(office.sittings) >= MOST_SITTINGS:
        return [AS_MANY_AS_CAN_BE]
    if not begins_as_told(office, told[0], told[1]):
        return [BEGINS_TOO_EARLY]
    office.sittings.append(Sitting(told[0], told[1], told[2]))
    return [0, len(office.sittings)]


def add_paper(office, told):
    if len(office.paper_minutes) >= MOST_PAPERS:
        return [AS_MANY_AS_CAN_BE]
    office.paper_minutes.append(told[0])
    office.timetable.append(0)
    return [0, len(office.paper_minutes)]


def add_room(office, told):
    if len(office.rooms) >= MOST_ROOMS:
        return [AS_MANY_AS_CAN_BE]
    office.rooms.append(Room(told[0], told[1]))
    return [0, len(office.rooms)]


def add_candidate(office, told):
    if told[0] in office.candidates:
        return [ID_TAKEN]
    if len(office.candidates) >= MOST_CANDIDATES:
        return [AS_MANY_AS_CAN_BE]
    office.candidates[told[0]] = Candidate(told[1], told[2])
    return [0]


def enter(office, told):
    refusal = refuse_entry(office, told[0], told[1])
    if refusal:
        return refusal
    candidate = office.candidates[told[0]]
    before = candidate.entered
    if told[1] in before:
        return [TOLD_ALREADY]
    candidate.entered = sorted(before + [told[1]])
    if how_wrong(office, office.timetable):
        candidate.entered = before
        return [WOULD_BE_WRONG]
    return [0]


def withdraw(office, told):
    refusal = refuse_entry(office, told[0], told[1])
    if refusal:
        return refusal
    candidate = office.candidates[told[0]]
    if told[1] not in candidate.entered:
        return [NOT_ENTERED]
    candidate.entered = [paper for paper in candidate.entered if paper != told[1]]
    return [0]


def put_ahead(office, told):
    p = told[0]
    q = told[1]
    before = office.orders
    if not (is_paper(office, p) and is_paper(office, q)):
        return [NO_PAPER]
    if p == q:
        return [SAME_PAPER]
    if (p, q) in before:
        return [TOLD_ALREADY]
    if len(before) >= MOST_ORDERS:
        return [AS_MANY_AS_CAN_BE]
    office.orders = before + [(p, q)]
    if how_wrong(office, office.timetable):
        office.orders = before
        return [WOULD_BE_WRONG]
    return [0]


def add_invigilator(office, told):
    if told[0] in office.invigilators:
        return [ID_TAKEN]
    if len(office.invigilators) >= MOST_INVIGILATORS:
        return [AS_MANY_AS_CAN_BE]
    office.invigilators[told[0]] = told[1]
    return [0]


def tell_time(office, told):
    refusal = refuse_entry(office, told[0], told[1])
    if refusal:
        return refusal
    return [0, time_for(office.paper_minutes[told[1] - 1], office.candidates[told[0]].extra)]


def tell_clashes(office, told):
    answer = [0]
    how_many = len(office.paper_minutes)
    for p in range(1, how_many + 1):
        for q in range(p + 1, how_many + 1):
            shared = in_common(office, p, q)
            if shared > 0:
                answer.extend([p, q, shared])
    return answer


def tell_best(office, told):
    found = best_timetable(office)
    if found is None:
        return [0, 0]
    return [0, 1, sittings_used(found)] + found


def tell_core(office, told):
    found = core_papers(office, told[0])
    if found is None:
        return [0, 0]
    return [0, 1] + found


def has_one_each(office, timetable):
    return len(timetable) == len(office.paper_minutes)


def judge(office, timetable):
    wrong = how_wrong(office, timetable)
    if wrong:
        return [0, 0] + wrong
    return [0, 1, sittings_used(timetable)]


def keep(office, timetable):
    if how_wrong(office, timetable):
        return [WOULD_BE_WRONG]
    office.timetable = timetable
    return [0]


def tell_check(office, told):
    if not has_one_each(office, told[0]):
        return [NOT_ONE_EACH]
    return judge(office, told[0])


def adopt(office, told):
    if not has_one_each(office, told[0]):
        return [NOT_ONE_EACH]
    return keep(office, list(told[0]))


def refuse_put(office, paper, sitting):
    """The refusals of all calls that name a paper and a sitting for it; empty if neither applies."""
    if not is_paper(office, paper):
        return [NO_PAPER]
    if not is_sitting(office, sitting):
        return [NO_SITTING]
    return []


def put_so(office, paper, sitting):
    after = list(office.timetable)
    after[paper - 1] = sitting
    return after


def put_paper(office, told):
    refusal = refuse_put(office, told[0], told[1])
    if refusal:
        return refusal
    return keep(office, put_so(office, told[0], told[1]))


def tell_seats(office, told):
    if not is_sitting(office, told[0]):
        return [NO_SITTING]
    answer = [0]
    for rows in seated_rooms(office, told[0]):
        seats = seats_of(rows)
        answer.append(len(seats))
        answer.extend(seats)
    return answer


def tell_where(office, told):
    if told[0] not in office.candidates:
        return [NO_CANDIDATE]
    if not is_sitting(office, told[1]):
        return [NO_SITTING]
    return [0] + find_seat(seated_rooms(office, told[1]), told[0])


def tell_invigilators(office, told):
    if not is_sitting(office, told[0]):
        return [NO_SITTING]
    return [0] + watch(office, told[0])


def tell_table(office, told):
    return [0] + office.timetable


def tell_papers(office, told):
    if told[0] not in office.candidates:
        return [NO_CANDIDATE]
    answer = [0]
    for paper in office.candidates[told[0]].entered:
        answer.extend([paper, office.timetable[paper - 1]])
    return answer


def tell_sitters(office, told):
    if not is_paper(office, told[0]):
        return [NO_PAPER]
    return [0] + entered_ids(office, told[0])


def tell_days(office, told):
    if told[0] not in office.candidates:
        return [NO_CANDIDATE]
    candidate = office.candidates[told[0]]
    answer = [0]
    for day in days_of_sittings(office):
        answer.extend([day, entered_among(candidate, papers_of_day(office, office.timetable, day))])
    return answer


def tell_would(office, told):
    refusal = refuse_put(office, told[0], told[1])
    if refusal:
        return refusal
    return judge(office, put_so(office, told[0], told[1]))


def tell_lengths(office, told):
    answer = [0]
    for paper, minutes in enumerate(office.paper_minutes, start=1):
        answer.extend([minutes, longest_time(office, paper), len(entered_ids(office, paper))])
    return answer


HANDLERS = {
    0: open_office,
    1: add_sitting,
    2: add_paper,
    3: add_room,
    4: add_candidate,
    5: enter,
    6: withdraw,
    7: put_ahead,
    8: add_invigilator,
    9: tell_time,
    10: tell_clashes,
    11: tell_best,
    12: tell_core,
    13: tell_check,
    14: adopt,
    15: put_paper,
    16: tell_seats,
    17: tell_where,
    18: tell_invigilators,
    19: tell_table,
    20: tell_papers,
    21: tell_sitters,
    22: tell_days,
    23: tell_would,
    24: tell_lengths,
}


def answer_call(office, number, told):
    if not in_range(number, told):
        return [OUT_OF_RANGE]
    if number != OPEN_CALL and not office.is_open:
        return [NOT_OPEN]
    handler = HANDLERS[number]
    return handler(office, told)
