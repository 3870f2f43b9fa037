"""Who sits where in a sitting of the timetable kept."""

from sittingrooms.rules import entered_ids
from sittingrooms.rules import fit_into_rows
from sittingrooms.rules import most_of_one
from sittingrooms.rules import papers_of_sitting
from sittingrooms.rules import rows_of_kind


def fit_behind(counts, before, left, rows):
    """Whether so many of each paper find seats on those left in a row and in the rows behind it.

    before is the place of the paper that sits just before the seats left.
    """
    # Of that paper nobody can have the first seat left: for it alone the row's rest is a seat shorter.
    if counts[before] > most_of_one([left - 1] + rows):
        return False
    return fit_into_rows(counts, [left] + rows)


def choose_paper(waiting, before, left, rows):
    """The place of the paper that the next seat goes to; None if it stays empty."""
    counts = [len(people) for people in waiting]
    for paper, count in enumerate(counts):
        if count > 0 and paper != before:
            others = list(counts)
            others[paper] -= 1
            if fit_behind(others, paper, left, rows):
                return paper
    return None


def fill_row(waiting, seats, rows):
    """Who sits in a row with so many seats, with these rows behind it; whoever does waits no more."""
    filled = []
    before = None
    for left in range(seats - 1, -1, -1):
        before = choose_paper(waiting, before, left, rows)
        if before is None:
            filled.append(0)
        else:
            filled.append(waiting[before].pop(0))
    return filled


def of_kind(office, people, quiet):
    """Those of them who sit in quiet rooms (quiet 1) or in plain ones (quiet 0)."""
    return [who for who in people if (office.candidates[who].extra > 0) == (quiet == 1)]


def fill_kind(office, papers, quiet):
    """Who sits in all rows of the quiet or of the plain rooms, row by row."""
    waiting = [of_kind(office, entered_ids(office, paper), quiet) for paper in papers]
    rows = rows_of_kind(office, quiet)
    filled = []
    for place, seats in enumerate(rows):
        filled.append(fill_row(waiting, seats, rows[place + 1:]))
    return filled


def seated_rooms(office, sitting):
    """For each room its rows, each with who is on its seats, 0 for nobody."""
    papers = papers_of_sitting(office.timetable, sitting)
    filled = [fill_kind(office, papers, 0), fill_kind(office, papers, 1)]
    rooms = []
    for room in office.rooms:
        rows = filled[room.quiet]
        rooms.append(rows[:len(room.rows)])
        filled[room.quiet] = rows[len(room.rows):]
    return rooms


def seats_of(rows):
    """The seats of all rows in one list."""
    seats = []
    for row in rows:
        seats.extend(row)
    return seats


def find_seat(rooms, who):
    """The room, the row and the seat, from 1; three zeros if they sit nowhere."""
    for room, rows in enumerate(rooms, start=1):
        for number, row in enumerate(rows, start=1):
            if who in row:
                return [room, number, row.index(who) + 1]
    return [0, 0, 0]
