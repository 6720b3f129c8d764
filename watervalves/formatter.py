"""Formats plans (point 4)."""

from watervalves.canon import plan_text
from watervalves.garden import read_plan


def format_plan(plan):
    """Return the canonical text of a plan."""
    return plan_text(read_plan(plan))


def valves(plan):
    """Return the list of the valves of a plan."""
    return list(read_plan(plan).names)
