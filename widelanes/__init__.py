"""Widelanes: many lanes, one row at once."""
