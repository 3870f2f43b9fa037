"""The whole program against tests/slow_office.py, on lines drawn at random; the same seed each time."""

import random
import unittest

from tests.drawn import drawn_office, ids_of
from tests.slow_office import LISTS, slow_answers
from tests.support import HUGE, ask

# Plain numbers of each call: the range of those mostly drawn.
DRAWN = {0: [(1, 4), (1, 4)], 1: [(1, 3), (0, 500), (50, 150)], 2: [(30, 70)], 3: [(0, 1)], 4: [(1, 9), (1, 4), (0, 1)],
         5: [(1, 9), (1, 4)], 6: [(1, 9), (1, 4)], 7: [(1, 4), (1, 4)], 8: [(1, 9), (1, 4)], 9: [(1, 9), (1, 4)],
         10: [], 11: [], 12: [(0, 5)], 13: [], 14: [], 15: [(1, 4), (0, 4)], 16: [(1, 4)], 17: [(1, 9), (1, 4)],
         18: [(1, 4)], 19: [], 20: [(1, 9)], 21: [(1, 4)], 22: [(1, 9)], 23: [(1, 4), (0, 4)], 24: []}
TELLING = [0, 1, 1, 2, 2, 3, 3, 4, 4, 4, 4, 5, 5, 5, 5, 8, 8]
ASKING = [5, 5, 6, 7, 9, 10, 13, 13, 14, 14, 14, 15, 15, 15, 16, 16, 17, 17, 18, 18, 18, 19, 20, 21, 22, 23, 23, 24]


def wild(source):
    return source.choice((-HUGE, -1, 0, 6, 7, 11, 31, 101, 301, 601, 1440, 1000000001, HUGE))


def any_number(source, low, high):
    return wild(source) if source.random() < 0.01 else source.randint(low, high)


def any_row(source, number, papers):
    if number == 3:
        size = source.choice((1, 1, 2, 3, 6)) if source.random() < 0.98 else 0
        return [any_number(source, 1, 4) for n in range(size)]
    size = papers if source.random() < 0.95 else source.randint(0, 6)
    return [source.choice((0, any_number(source, 1, 3))) for n in range(size)]


def any_call(source, number, papers):
    numbers = [any_number(source, low, high) for low, high in DRAWN[number]]
    if number == 4 and numbers[2] == 1:
        numbers[2] = source.randint(1, 100)
    if number in LISTS:
        row = any_row(source, number, papers)
        numbers += [len(row), *row]
    return [number, *numbers]


def any_line(source, how_many):
    calls = []
    papers = 0
    if source.random() < 0.95:
        calls.append(any_call(source, 0, 0))
    for n in range(how_many):
        number = source.choice(TELLING if n < how_many // 2 else ASKING)
        calls.append(any_call(source, number, papers))
        papers = min(6, papers + (number == 2))
    if papers < 5 and source.random() < 0.2:
        calls += [[11], any_call(source, 12, 0)]
    return calls


def any_well_told_line(source):
    """A good office first, then whatever is asked, mostly of candidates and papers that are there."""
    calls = drawn_office(source, source.randint(0, 12), source.randint(1, 4), sittings=4, most_rows=2, most_seats=4,
                         guards=source.randint(0, 8), entries=(1, 2, 2, 3))
    people = ids_of(calls, 4)
    papers = len(ids_of(calls, 2))
    for n in range(60):
        call = any_call(source, source.choice(ASKING), papers)
        if call[0] in (5, 6, 9, 17, 20, 22) and people and source.random() < 0.9:
            call[1] = source.choice(people)
        calls.append(call)
    return calls


class AgainstTheWords(unittest.TestCase):
    def check_line(self, calls):
        found = ask(*calls)
        for place, (answer, wanted) in enumerate(zip(found, slow_answers(calls))):
            self.assertEqual(answer, wanted, (calls[:place + 1], place))
        return found

    def test_lines_drawn_at_random(self):
        source = random.Random(1611)
        seen = {}
        for n in range(1500):
            calls = any_line(source, source.choice((8, 40, 80, 120)))
            for call, answer in zip(calls, self.check_line(calls)):
                seen[(call[0], *answer[:3])] = True
        self.check_all_was_seen(seen)

    def test_offices_well_told(self):
        source = random.Random(20)
        seen = {}
        for n in range(300):
            calls = any_well_told_line(source)
            for call, answer in zip(calls, self.check_line(calls)):
                seen[(call[0], *answer[:3])] = True
        for number in (13, 23):
            wrong = {key[3] for key in seen if key[:3] == (number, 0, 0)}
            self.assertLessEqual({2, 3, 4, 5, 6}, wrong)
        for number in (5, 7, 14, 15):
            self.assertIn((number, -10), seen)

    def check_all_was_seen(self, seen):
        """Were an answer never drawn, it would not be held against the words."""
        kinds = {key[:2] for key in seen}
        wanted = {(0, -6), (5, -10), (7, -10), (7, -13), (13, -14), (14, -14), (14, -10), (15, -10), (15, -4),
                  (15, -5), (16, -5), (17, -3), (17, -5), (18, -5), (20, -3), (21, -4), (22, -3), (23, -4), (23, -5)}
        wanted |= {(number, -2) for number in range(1, 25) if number not in (11, 12)}
        wanted |= {(number, -1) for number in DRAWN if DRAWN[number] and number != 12}
        wanted |= {(number, 0) for number in DRAWN}
        self.assertEqual(wanted - kinds, set())
        wrong = {key[3] for key in seen if key[:3] == (13, 0, 0)}
        self.assertEqual(wrong, {1, 2, 3, 4, 5, 6})
        self.assertLessEqual({(18, 0, 0), (18, 0, 1)}, {key[:3] for key in seen})


if __name__ == "__main__":
    unittest.main()
