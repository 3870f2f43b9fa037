"""All of the document's words, followed one by one and slowly, to hold the program against.

It shares nothing with the program: seats are found by trying every seat, invigilators by trying every way to send
them and every set of them.
"""

from itertools import combinations

from tests import reference
from tests.reference import seats_found
from tests.support import flat

ID = range(1, 1000000001)
RANGES = {0: [range(1, 5), range(1, 31)], 1: [range(1, 31), range(0, 1440), range(1, 601)], 2: [range(1, 301)],
          3: [range(0, 2)], 4: [ID, ID, range(0, 101)], 5: [ID, range(1, 7)], 6: [ID, range(1, 7)],
          7: [range(1, 7), range(1, 7)], 8: [ID, ID], 9: [ID, range(1, 7)], 10: [], 11: [], 12: [range(0, 6)],
          13: [], 14: [], 15: [range(1, 7), range(0, 6)], 16: [range(1, 6)], 17: [ID, range(1, 6)],
          18: [range(1, 6)], 19: [], 20: [ID], 21: [range(1, 7)], 22: [ID], 23: [range(1, 7), range(0, 6)], 24: []}
LISTS = {3: (range(1, 7), range(1, 11)), 13: (range(0, 7), range(0, 6)), 14: (range(0, 7), range(0, 6))}


class Refusal(Exception):
    pass


def refuse_if(condition, number):
    if condition:
        raise Refusal(number)


def subsets(everybody):
    for size in range(len(everybody) + 1):
        yield from combinations(everybody, size)


class SlowOffice:
    def __init__(self):
        self.is_open = False
        self.sittings = []
        self.minutes = []
        self.rooms = []
        self.candidates = {}
        self.entries = []
        self.orders = []
        self.guards = {}
        self.table = {}

    def answer(self, call):
        number, rest = call[0], call[1:]
        plain = len(RANGES[number])
        numbers, row = rest[:plain], rest[plain + 1:]
        try:
            refuse_if(any(each not in let for each, let in zip(numbers, RANGES[number])), -1)
            if number in LISTS:
                sizes, let = LISTS[number]
                refuse_if(len(row) not in sizes or any(each not in let for each in row), -1)
                numbers = [*numbers, row]
            refuse_if(number > 0 and not self.is_open, -2)
            return [0, *getattr(self, f"call_{number}")(*numbers)]
        except Refusal as refusal:
            return [refusal.args[0]]

    # What is there, and the refusals that several calls have.

    def need_candidate(self, who):
        refuse_if(who not in self.candidates, -3)

    def need_paper(self, p):
        refuse_if(p > len(self.minutes), -4)

    def need_sitting(self, k):
        refuse_if(k > len(self.sittings), -5)

    def need_right(self, **changed):
        """-10 if what is kept would be wrong with this changed; else it is changed."""
        before = dict(self.__dict__)
        self.__dict__.update(changed)
        if self.wrong(self.table):
            self.__dict__.update(before)
            raise Refusal(-10)

    def papers(self):
        return range(1, len(self.minutes) + 1)

    def time(self, who, p):
        minutes, extra = self.minutes[p - 1], self.candidates[who][1]
        part = 0
        while part * 100 < minutes * extra:
            part += 1
        return minutes + part

    def longest(self, p):
        return max([self.minutes[p - 1]] + [self.time(who, q) for who, q in self.entries if q == p])

    def writers(self, p):
        return [who for who in self.candidates if (who, p) in self.entries]

    def day_of(self, k):
        return self.sittings[k - 1][0]

    def days(self):
        return list(dict.fromkeys(day for day, beginning, minutes in self.sittings))

    # Timetables: a dict of the papers that are put and their sittings.

    def wrong(self, put):
        for p in sorted(put):
            if put[p] > len(self.sittings):
                return [1, p, 0]
        for p in sorted(put):
            if self.longest(p) > self.sittings[put[p] - 1][2]:
                return [2, p, 0]
        for p, q in combinations(sorted(put), 2):
            if put[p] == put[q] and any(who in self.writers(q) for who in self.writers(p)):
                return [3, p, q]
        for p, q in self.orders:
            if p in put and q in put and not put[p] < put[q]:
                return [4, p, q]
        for who in self.candidates:
            for day in self.days():
                if self.papers_on(who, day, put) > self.per_day:
                    return [5, who, day]
        for k in range(1, len(self.sittings) + 1):
            for quiet in (0, 1):
                counts = tuple(len(self.group(p, quiet)) for p in sorted(put) if put[p] == k)
                if not seats_found(tuple(flat(self.rows_of(quiet))), counts, None):
                    return [6, k, 0]
        return []

    def papers_on(self, who, day, put):
        return sum(1 for p in put if (who, p) in self.entries and self.day_of(put[p]) == day)

    def group(self, p, quiet):
        return [who for who in self.writers(p) if (self.candidates[who][1] > 0) == (quiet == 1)]

    def rows_of(self, quiet):
        return [rows for kind, rows in self.rooms if kind == quiet]

    def verdict(self, put):
        wrong = self.wrong(put)
        return [0, *wrong] if wrong else [1, len(set(put.values()))]

    def read_table(self, row):
        refuse_if(len(row) != len(self.minutes), -14)
        return {p: k for p, k in zip(self.papers(), row) if k > 0}

    def changed_table(self, p, k):
        put = {q: self.table[q] for q in self.table if q != p}
        return {**put, p: k} if k > 0 else put

    def as_words(self):
        """The office as reference.py tells it."""
        people = [(extra, [p for p in self.papers() if (who, p) in self.entries])
                  for who, (centre, extra) in self.candidates.items()]
        return {"per_day": self.per_day, "sittings": [(day, minutes) for day, beginning, minutes in self.sittings],
                "papers": self.minutes, "rooms": self.rooms, "candidates": people, "orders": self.orders}

    # Seats: for each room its rows of ids.

    def seats(self, k):
        rooms = [[] for room in self.rooms]
        for quiet in (0, 1):
            papers = [p for p in sorted(self.table) if self.table[p] == k]
            groups = [self.group(p, quiet) for p in papers]
            rows = [(place, size) for place, (kind, sizes) in enumerate(self.rooms) if kind == quiet
                    for size in sizes]
            for at, (place, size) in enumerate(rows):
                rooms[place].append(self.fill(groups, size, [other for room, other in rows[at + 1:]]))
        return rooms

    def fill(self, groups, size, behind):
        row = []
        before = None
        for left in reversed(range(size)):
            chosen = None
            for place, group in enumerate(groups):
                counts = tuple(len(each) - (each is group) for each in groups)
                if chosen is None and group and place != before and seats_found((left, *behind), counts, place):
                    chosen = place
            row.append(0 if chosen is None else groups[chosen].pop(0))
            before = chosen
        return row

    # Invigilators.

    def wants(self, k):
        """For each room how many it wants, and who may be there."""
        found = []
        for rows in self.seats(k):
            people = [who for who in flat(rows) if who]
            want = 0
            while want * self.ratio < len(people):
                want += 1
            centres = [self.candidates[who][0] for who in people]
            found.append((want, [who for who, centre in self.guards.items() if centre not in centres]))
        return found

    def short(self, group, wants):
        lacking = [want - len([who for who in may if who not in group]) for want, may in wants]
        return sum(each for each in lacking if each > 0) > len(group)

    def ways(self, wants, used=()):
        """All ways to meet all wants from the first room on, as tuples of ids."""
        wants = [(want, may) for want, may in wants if want > 0]
        if not wants:
            yield ()
            return
        want, may = wants[0]
        for who in may:
            if who not in used:
                for rest in self.ways([(want - 1, may), *wants[1:]], (*used, who)):
                    yield (who, *rest)

    # The calls.

    def call_0(self, per_day, ratio):
        refuse_if(self.is_open, -6)
        self.is_open, self.per_day, self.ratio = True, per_day, ratio
        return []

    def call_1(self, day, beginning, minutes):
        refuse_if(len(self.sittings) == 5, -7)
        for other, start, length in self.sittings[-1:]:
            refuse_if(day < other or (day == other and beginning < start + length), -8)
        self.sittings.append((day, beginning, minutes))
        return [len(self.sittings)]

    def call_2(self, minutes):
        refuse_if(len(self.minutes) == 6, -7)
        self.minutes.append(minutes)
        return [len(self.minutes)]

    def call_3(self, quiet, rows):
        refuse_if(len(self.rooms) == 4, -7)
        self.rooms.append((quiet, tuple(rows)))
        return [len(self.rooms)]

    def call_4(self, who, centre, extra):
        refuse_if(who in self.candidates, -9)
        refuse_if(len(self.candidates) == 30, -7)
        self.candidates[who] = (centre, extra)
        return []

    def call_5(self, who, p):
        self.need_candidate(who)
        self.need_paper(p)
        refuse_if((who, p) in self.entries, -11)
        self.need_right(entries=self.entries + [(who, p)])
        return []

    def call_6(self, who, p):
        self.need_candidate(who)
        self.need_paper(p)
        refuse_if((who, p) not in self.entries, -12)
        self.entries = [entry for entry in self.entries if entry != (who, p)]
        assert not self.wrong(self.table)
        return []

    def call_7(self, p, q):
        self.need_paper(p)
        self.need_paper(q)
        refuse_if(p == q, -13)
        refuse_if((p, q) in self.orders, -11)
        refuse_if(len(self.orders) == 10, -7)
        self.need_right(orders=self.orders + [(p, q)])
        return []

    def call_8(self, who, centre):
        refuse_if(who in self.guards, -9)
        refuse_if(len(self.guards) == 8, -7)
        self.guards[who] = centre
        return []

    def call_9(self, who, p):
        self.need_candidate(who)
        self.need_paper(p)
        return [self.time(who, p)]

    def call_10(self):
        found = []
        for p, q in combinations(self.papers(), 2):
            both = [who for who in self.writers(p) if who in self.writers(q)]
            found += [p, q, len(both)] if both else []
        return found

    def call_11(self):
        return reference.best(self.as_words())[1:]

    def call_12(self, k):
        return reference.core(self.as_words(), k)[1:]

    def call_13(self, row):
        return self.verdict(self.read_table(row))

    def call_14(self, row):
        self.need_right(table=self.read_table(row))
        return []

    def call_15(self, p, k):
        self.need_paper(p)
        self.need_sitting(k)
        self.need_right(table=self.changed_table(p, k))
        return []

    def call_16(self, k):
        self.need_sitting(k)
        rooms = [flat(rows) for rows in self.seats(k)]
        return flat([len(people), *people] for people in rooms)

    def call_17(self, who, k):
        self.need_candidate(who)
        self.need_sitting(k)
        for place, rows in enumerate(self.seats(k)):
            for number, row in enumerate(rows):
                for seat, sitter in enumerate(row):
                    if sitter == who:
                        return [place + 1, number + 1, seat + 1]
        return [0, 0, 0]

    def call_18(self, k):
        self.need_sitting(k)
        wants = self.wants(k)
        short = next((group for group in subsets(list(self.guards)) if self.short(group, wants)), None)
        # Ways come in order: the first want's first one first. So the first way is the one told.
        way = next(self.ways(wants), None)
        assert (short is None) == (way is not None)
        if way is None:
            return [0, *short]
        rooms = flat([place] * want for place, (want, may) in enumerate(wants, start=1))
        return [1, *flat(zip(rooms, way))]

    def call_19(self):
        return [self.table.get(p, 0) for p in self.papers()]

    def call_20(self, who):
        self.need_candidate(who)
        return flat([p, self.table.get(p, 0)] for p in self.papers() if (who, p) in self.entries)

    def call_21(self, p):
        self.need_paper(p)
        return self.writers(p)

    def call_22(self, who):
        self.need_candidate(who)
        return flat([day, self.papers_on(who, day, self.table)] for day in self.days())

    def call_23(self, p, k):
        self.need_paper(p)
        self.need_sitting(k)
        return self.verdict(self.changed_table(p, k))

    def call_24(self):
        return flat([self.minutes[p - 1], self.longest(p), len(self.writers(p))] for p in self.papers())


def slow_answers(calls):
    office = SlowOffice()
    return [office.answer(call) for call in calls]
