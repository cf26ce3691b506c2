"""Neatwright: programs of a little language laid out neatly, looked over and rebuilt."""
