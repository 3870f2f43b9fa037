"""Rooms and clashes: papers, sittings, rooms, and the timetable that uses the fewest sittings."""
