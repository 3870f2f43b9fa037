"""What an office keeps between one call and the next."""


class Sitting:
    def __init__(self, day, beginning, minutes):
        self.day = day
        self.beginning = beginning
        self.minutes = minutes


class Room:
    def __init__(self, quiet, rows):
        self.quiet = quiet
        self.rows = rows


class Candidate:
    def __init__(self, centre, extra):
        self.centre = centre
        self.extra = extra
        self.entered = []


class Office:
    """Dicts by id keep the order of telling; papers, sittings and rooms stand by number, less 1."""

    def __init__(self):
        self.is_open = False
        self.per_day = 0
        self.ratio = 0
        self.sittings = []
        self.paper_minutes = []
        self.rooms = []
        self.candidates = {}
        self.orders = []
        self.invigilators = {}
        self.timetable = []
