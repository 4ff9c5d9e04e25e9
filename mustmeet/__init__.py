"""Mustmeet: closed cords on a floor with bands, and which of their meetings must be."""
