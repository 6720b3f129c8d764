"""The canonical text of a plan (point 4)."""


def plan_text(garden):
    """Return the canonical text."""
    names = garden.names
    lines = [
        _line("round", [garden.period]),
        _line("open", [garden.limit]),
        _line("valves", names),
    ]
    if garden.rank != list(range(len(names))):
        lines.append(_line("rank", [names[valve] for valve in garden.rank]))
    for tick, valve, water in garden.starts:
        lines.append(_line("start", [names[valve], tick, "for", water]))
    for run in dry_runs(garden):
        lines.append(_line("pause", run))
    return "\n".join(lines)


def dry_runs(garden):
    """Return the first and the last tick of each longest run of paused ticks, ascending."""
    runs = []
    for tick, dry in enumerate(garden.dry):
        if dry and tick > 0 and garden.dry[tick - 1]:
            first, _ = runs[-1]
            runs[-1] = (first, tick)
        elif dry:
            runs.append((tick, tick))
    return runs


def _line(keyword, words):
    """Return the line of a statement."""
    return " ".join([keyword] + [str(word) for word in words]) + ";"
