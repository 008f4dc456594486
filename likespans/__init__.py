"""Likespans: timetables that come round, and what is alike in them."""
