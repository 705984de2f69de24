"""Letterrack: words of tiles laid across one another."""
