"""Watervalves: garden valves, of which only some can be open at once."""
