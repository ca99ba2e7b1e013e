"""Unknowncalls: loops that call what nobody knows, alike for all meanings."""
