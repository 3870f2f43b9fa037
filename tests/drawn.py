"""Small offices drawn at random, well told: nothing in them is refused but what the timetable kept forbids."""

from tests.support import ahead, candidate, enter, invigilator, open_office, paper, put, room, sitting


def drawn_rooms(source, most_rows, most_seats):
    kinds = source.choice(((0,), (1, 0), (0, 1, 0), (0, 1), (0, 0, 1, 1), (1, 0, 1), (0, 0)))
    return [room(kind, [source.randint(1, most_seats) for n in range(source.randint(1, most_rows))]) for kind in kinds]


def drawn_people(source, how_many, papers, centres, entries=(1, 1, 1, 2)):
    """Ids aren't in the order of telling, so that the two can't be mixed up."""
    calls = []
    for who in source.sample(range(1, 100), how_many):
        calls.append(candidate(who, source.choice((0, 0, 0, 1, 50)), source.randint(1, centres)))
        written = source.sample(range(1, papers + 1), min(papers, source.choice(entries)))
        calls += [enter(who, p) for p in written]
    source.shuffle(calls)
    return sorted(calls, key=lambda call: call[0])


def drawn_office(source, people, ratio, centres=4, most_rows=3, most_seats=5, sittings=2, guards=8, entries=(1, 1, 1, 2)):
    papers = source.randint(1, 5)
    calls = [open_office(source.randint(1, 4), ratio)]
    calls += [sitting(1 + n // 2, 200 * (n % 2), source.choice((100, 150))) for n in range(sittings)]
    calls += [paper(source.randint(30, 100)) for n in range(papers)]
    calls += drawn_rooms(source, most_rows, most_seats)
    calls += drawn_people(source, people, papers, centres, entries)
    if source.random() < 0.3 and papers > 1:
        calls.append(ahead(*source.sample(range(1, papers + 1), 2)))
    calls += [invigilator(who, source.randint(1, centres)) for who in source.sample(range(1, 100), guards)]
    # A paper that can't be put is refused and stays out; the others are put all the same.
    return calls + [put(p, source.choice((1, 1, 1, 2))) for p in source.sample(range(1, papers + 1), papers)]


def ids_of(calls, number):
    return [call[1] for call in calls if call[0] == number]
