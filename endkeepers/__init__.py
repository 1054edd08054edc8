"""Endkeepers: what must be kept of a row whose ends come and go."""
