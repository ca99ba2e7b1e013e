"""Pictures: what is known behind a section, told in plain tuples, and runs that go on from there.

An item that is still to come to a loop is held as "item" by it.
"""

from unknowncalls.closing import EITHER_WAY, GONE, Known, bits
from unknowncalls.going import left_behind, part_impossible, squeezed_behind
from unknowncalls.runs import Run


def picture_behind(run):
    """The picture behind the section that a run has done; what it knows is not used again."""
    known = run.known
    groups = _groups(run)
    part_impossible(known, groups)
    calls, shares = left_behind(known, groups)
    squeezed = squeezed_behind(known, groups)
    numbers = {lead: number for number, lead in enumerate(groups)}
    said = [(key, truth) for key, truth in known.said.items() if key[1] in numbers and key[-1] in numbers]
    held = sum([1 << lead for lead in groups])
    pairs = [(numbers[one], numbers[other]) for one in groups for other in bits(known.unlikes[one] & held)]
    order = [(numbers[one], numbers[other], known.overs[one] >> other & 1 == 1)
             for one in groups for other in bits(known.ups[one] & held)]
    numbers[GONE] = GONE
    return (
        run.lefts,
        tuple([tuple(holders) for holders in groups.values()]),
        tuple([known.marks[lead] for lead in groups]),
        _rows(known, numbers, [(key, numbers[result]) for key, result in calls]),
        _rows(known, numbers, said),
        tuple(sorted([pair for pair in pairs if pair[0] < pair[1]])),
        tuple(sorted(order)),
        _numbered_shares(numbers, shares),
        tuple(sorted([(numbers[one], numbers[other]) for one, other in squeezed])),
    )


def run_from(pair, picture):
    """A run that goes on from a picture."""
    lefts, groups, marks, calls, said, unlike, order, shares, squeezed = picture
    known = Known(pair.told_rules, len(groups))
    known.marks = list(marks)
    known.calls = {(name, *values): result for name, values, result in calls}
    known.said = {(name, *values): truth for name, values, truth in said}
    known.shares = shares
    known.squeezed = squeezed
    known.is_ordered = len(order) > 0
    for one, other in unlike:
        known.set_unlike(one, other)
    for one, other, is_over in order:
        known.ups[one] |= 1 << other
        known.overs[one] |= is_over << other
    envs = ({}, {})
    for number, holders in enumerate(groups):
        for side, name in holders:
            if side != 2:
                envs[0][name] = number
            if side != 1:
                envs[1][name] = number
    run = Run(pair, known, lefts, envs)
    run.waits = (envs[0].get("item"), envs[1].get("item"))
    run.index = 0
    return run


def _groups(run):
    """The lists of the holders of all groups that stay held, in order, by their leaders."""
    pair, leads = run.pair, run.known.leads
    groups = {}
    for side in (1, 2):
        env = run.envs[side - 1]
        for name in pair.lastings[side - 1]:
            groups.setdefault(leads[env[name]], []).append((side, name))
    for name in pair.constants:
        groups.setdefault(leads[run.envs[0][name]], []).append((0, name))
    for side, value in zip((1, 2), run.waits):
        if value is not None:
            groups.setdefault(leads[value], []).append((side, "item"))
    return groups


def _rows(known, numbers, pairs):
    """Calls or answers as an ascending tuple of triples."""
    rows = []
    for key, worth in pairs:
        values = [numbers[value] for value in key[1:]]
        if known.told_rules.get(key[0]) in EITHER_WAY:
            values = sorted(values)
        rows.append((key[0], tuple(values), worth))
    return tuple(sorted(rows))


def _numbered_shares(numbers, shares):
    """The shares as an ascending tuple, those once that are equal now."""
    rows = [tuple(sorted([(numbers[value], numbers[result]) for value, result in share])) for share in shares]
    return tuple(sorted({row: True for row in rows}))
