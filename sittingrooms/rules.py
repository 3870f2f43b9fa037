"""When a timetable is wrong, and by what."""


def time_for(minutes, extra):
    return minutes + (minutes * extra + 99) // 100


def entrants(office, paper):
    return [candidate for candidate in office.candidates.values() if paper in candidate.entered]


def entered_ids(office, paper):
    return [who for who, candidate in office.candidates.items() if paper in candidate.entered]


def longest_time(office, paper):
    minutes = office.paper_minutes[paper - 1]
    times = [time_for(minutes, candidate.extra) for candidate in entrants(office, paper)]
    return max([minutes] + times)


def in_common(office, p, q):
    return len([candidate for candidate in entrants(office, p) if q in candidate.entered])


def entered_among(candidate, papers):
    return len([paper for paper in papers if paper in candidate.entered])


def rows_of_kind(office, quiet):
    rows = []
    for room in office.rooms:
        if room.quiet == quiet:
            rows.extend(room.rows)
    return rows


def most_of_one(rows):
    """How many of one paper find seats in these rows."""
    return sum([(seats + 1) // 2 for seats in rows])


def fit_into_rows(counts, rows):
    """Whether so many of each paper find seats, no two of one paper beside one another.

    A row of n seats takes at most (n + 1) // 2 of one paper. That, and seats for all, is enough:
    while both hold for all rows, the first row can be filled so that both hold for the others too.
    """
    return sum(counts) <= sum(rows) and max(counts, default=0) <= most_of_one(rows)


def can_be_seated(office, papers):
    """Whether all who write these papers in one sitting can be seated, none of them writing two."""
    with_extra = []
    without = []
    for paper in papers:
        extras = [candidate.extra for candidate in entrants(office, paper)]
        without.append(extras.count(0))
        with_extra.append(len(extras) - extras.count(0))
    if not fit_into_rows(without, rows_of_kind(office, 0)):
        return False
    return fit_into_rows(with_extra, rows_of_kind(office, 1))


def no_such_sitting(office, timetable):
    for paper, sitting in enumerate(timetable, start=1):
        if sitting > len(office.sittings):
            return [1, paper, 0]
    return []


def too_long(office, timetable):
    for paper, sitting in enumerate(timetable, start=1):
        if sitting > 0 and longest_time(office, paper) > office.sittings[sitting - 1].minutes:
            return [2, paper, 0]
    return []


def two_at_once(office, timetable):
    for p, sitting in enumerate(timetable, start=1):
        for q in range(p + 1, len(timetable) + 1):
            if sitting > 0 and timetable[q - 1] == sitting and in_common(office, p, q) > 0:
                return [3, p, q]
    return []


def out_of_order(office, timetable):
    for p, q in office.orders:
        earlier = timetable[p - 1]
        later = timetable[q - 1]
        if earlier > 0 and later > 0 and earlier >= later:
            return [4, p, q]
    return []


def papers_of_day(office, timetable, day):
    papers = []
    for paper, sitting in enumerate(timetable, start=1):
        if sitting > 0 and office.sittings[sitting - 1].day == day:
            papers.append(paper)
    return papers


def days_of_sittings(office):
    # Sittings are told by rising days, so sorted days come as with the sittings.
    return sorted(set([sitting.day for sitting in office.sittings]))


def crowded_day(office, timetable):
    days = days_of_sittings(office)
    for who, candidate in office.candidates.items():
        for day in days:
            if entered_among(candidate, papers_of_day(office, timetable, day)) > office.per_day:
                return [5, who, day]
    return []


def papers_of_sitting(timetable, number):
    return [paper for paper, sitting in enumerate(timetable, start=1) if sitting == number]


def not_seated(office, timetable):
    for number in range(1, len(office.sittings) + 1):
        if not can_be_seated(office, papers_of_sitting(timetable, number)):
            return [6, number, 0]
    return []


RULES = (no_such_sitting, too_long, two_at_once, out_of_order, crowded_day, not_seated)


def how_wrong(office, timetable):
    """The kind and the two numbers by which the timetable is wrong; an empty list if it's right."""
    for rule in RULES:
        found = rule(office, timetable)
        if found:
            return found
    return []
