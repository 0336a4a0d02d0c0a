"""Lettermoat: programs of hands that send letters, and what holds in all their runs."""
