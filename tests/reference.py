"""The document's words on best and core, followed one by one and slowly, to hold the program against.

An office is told by a dict: per_day, sittings (day, minutes), papers (minutes), rooms (quiet, rows),
candidates (extra, papers entered for) and orders (p, q).
"""

from functools import lru_cache
from itertools import combinations, product


@lru_cache(maxsize=None)
def seats_found(rows, counts, before):
    """Tries each seat with each paper and with nobody; before is the paper on the seat before in the row."""
    if sum(counts) == 0:
        return True
    if not rows:
        return False
    if rows[0] == 0:
        return seats_found(rows[1:], counts, None)
    behind = (rows[0] - 1,) + rows[1:]
    for index, count in enumerate(counts):
        if count > 0 and index != before:
            left = counts[:index] + (count - 1,) + counts[index + 1:]
            if seats_found(behind, left, index):
                return True
    return seats_found(behind, counts, None)


def all_seated(office, papers):
    for quiet in (0, 1):
        rows = tuple(seats for kind, rows in office["rooms"] if kind == quiet for seats in rows)
        counts = []
        for p in papers:
            those = [c for c in office["candidates"] if p in c[1] and (c[0] > 0) == (quiet == 1)]
            counts.append(len(those))
        if not seats_found(rows, tuple(counts), None):
            return False
    return True


def longest(office, p):
    minutes = office["papers"][p - 1]
    times = [minutes]
    for extra, entered in office["candidates"]:
        if p in entered:
            hundredths = minutes * extra
            times.append(minutes + hundredths // 100 + (1 if hundredths % 100 else 0))
    return max(times)


def is_right(office, put):
    """put: a dict of papers and their sittings."""
    for p, k in put.items():
        if k > len(office["sittings"]) or longest(office, p) > office["sittings"][k - 1][1]:
            return False
    for extra, entered in office["candidates"]:
        written = [put[p] for p in entered if p in put]
        if len(set(written)) < len(written):
            return False
        days = [office["sittings"][k - 1][0] for k in written]
        if any(days.count(day) > office["per_day"] for day in days):
            return False
    for p, q in office["orders"]:
        if p in put and q in put and not put[p] < put[q]:
            return False
    for k in set(put.values()):
        if not all_seated(office, [p for p in put if put[p] == k]):
            return False
    return True


def right_timetables(office, papers):
    sittings = range(1, len(office["sittings"]) + 1)
    for chosen in product(sittings, repeat=len(papers)):
        if is_right(office, dict(zip(papers, chosen))):
            yield chosen


def best(office):
    papers = range(1, len(office["papers"]) + 1)
    found = [(len(set(chosen)), chosen) for chosen in right_timetables(office, papers)]
    if not found:
        return [0, 0]
    used, chosen = min(found)
    return [0, 1, used, *chosen]


def core(office, k):
    papers = range(1, len(office["papers"]) + 1)
    for size in range(len(papers) + 1):
        for group in combinations(papers, size):
            if not any(len(set(chosen)) <= k for chosen in right_timetables(office, group)):
                return [0, 1, *group]
    return [0, 0]


def calls_of(office):
    """The calls that tell the office, ahead of the call that is to be asked."""
    calls = [[0, office["per_day"], 30]]
    beginnings = {}
    for day, minutes in office["sittings"]:
        beginning = beginnings.get(day, 0)
        beginnings[day] = beginning + minutes
        calls.append([1, day, beginning, minutes])
    calls += [[2, minutes] for minutes in office["papers"]]
    calls += [[3, quiet, len(rows), *rows] for quiet, rows in office["rooms"]]
    for who, (extra, entered) in enumerate(office["candidates"], start=1):
        calls.append([4, who, 1, extra])
        calls += [[5, who, p] for p in entered]
    calls += [[7, p, q] for p, q in office["orders"]]
    return calls
