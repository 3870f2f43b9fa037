"""Ways to write calls and to read answers, for all tests."""

from sittingrooms.office import answers

HUGE = 1000000000000000000
TOP_ID = 1000000000


def open_office(per_day=4, ratio=30):
    return [0, per_day, ratio]


def sitting(day=1, beginning=0, minutes=60):
    return [1, day, beginning, minutes]


def paper(minutes=60):
    return [2, minutes]


def room(quiet=0, rows=(10,)):
    return [3, quiet, len(rows), *rows]


def candidate(who, extra=0, centre=1):
    return [4, who, centre, extra]


def enter(who, p):
    return [5, who, p]


def withdraw(who, p):
    return [6, who, p]


def ahead(p, q):
    return [7, p, q]


def invigilator(who, centre=1):
    return [8, who, centre]


def time(who, p):
    return [9, who, p]


def clashes():
    return [10]


def best():
    return [11]


def core(k):
    return [12, k]


def check(*timetable):
    return [13, len(timetable), *timetable]


def adopt(*timetable):
    return [14, len(timetable), *timetable]


def put(p, k):
    return [15, p, k]


def seats(k):
    return [16, k]


def where(who, k):
    return [17, who, k]


def invigilators(k):
    return [18, k]


def table():
    return [19]


def papers(who):
    return [20, who]


def sitters(p):
    return [21, p]


def days(who):
    return [22, who]


def would(p, k):
    return [23, p, k]


def lengths():
    return [24]


def entered(*lists):
    """Candidates 1, 2 ... , each with the papers they are entered for."""
    calls = [candidate(who) for who in range(1, len(lists) + 1)]
    return calls + [enter(who, p) for who, entries in enumerate(lists, start=1) for p in entries]


def flat(calls):
    return [number for call in calls for number in call]


def split(answered):
    """The answers one by one, without their counts."""
    found = []
    at = 0
    while at < len(answered):
        size = answered[at]
        found.append(answered[at + 1:at + 1 + size])
        assert len(found[-1]) == size and size > 0
        at += 1 + size
    return found


def ask(*calls):
    """All answers to the calls, each as its own list."""
    line = flat(calls)
    before = list(line)
    answered = answers(line)
    assert line == before, "what is handed in was changed"
    assert all(type(number) is int for number in answered)
    found = split(answered)
    assert len(found) == len(calls)
    return found


def last(*calls):
    """The answer to the last call; all the others must be taken, not refused."""
    found = ask(*calls)
    refused = [(call, answer) for call, answer in zip(calls[:-1], found[:-1]) if answer[0] < 0]
    assert not refused, refused
    return found[-1]


def last_of_any(*calls):
    """The answer to the last call, whether the others are refused or not."""
    return ask(*calls)[-1]


def edges(told, make, low, high):
    """What is answered to make(value) for the least and the greatest that are let, then for one beyond each."""
    let = [last(*told, make(value)) for value in (low, high)]
    beyond = [last(*told, make(value)) for value in (low - 1, high + 1, -HUGE, HUGE)]
    return let, beyond
