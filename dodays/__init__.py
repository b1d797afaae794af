"""Dodays: things to do, day by day."""
