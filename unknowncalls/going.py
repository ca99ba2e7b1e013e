"""What stays known behind a section, when all values but those that are held go.

held is a dict with the leaders of the values that stay held as its keys.
"""

from unknowncalls.closing import EITHER_WAY, GONE
from unknowncalls.trials import impossible_pairs


def part_impossible(known, held):
    """Held values that cannot be equal become unlike, while all is known of it still."""
    pairs = impossible_pairs(known, held)
    for one, other in pairs:
        known.mark((one, other), 2)
        known.set_unlike(one, other)
    if pairs:
        known.sharpen()


def left_behind(known, held):
    """The pairs of a key of a call and its result, and the shares, that are left."""
    calls, beside = [], {}
    for key, result in known.calls.items():
        gone = [value for value in key[1:] if value not in held]
        lead = known.lead_of(result)
        if not gone:
            calls.append((key, lead))
        elif len(key) == 3 and len(gone) == 1:
            at = 1 if key[1] in held else 2
            place = 0 if known.told_rules.get(key[0]) in EITHER_WAY else at
            beside.setdefault((key[0], place, gone[0]), []).append((key[at], lead))
    calls, shares = _without_bare(known, held, calls, known.share_rows() + list(beside.values()))
    left = [(key, result if result in held else GONE) for key, result in calls]
    return left, [[(value, result if result in held else GONE) for value, result in share] for share in shares]


def squeezed_behind(known, held):
    """The pairs of held values that are squeezed by one that goes, or were so."""
    if not known.is_ordered:
        return []
    bounds = [(known.leads[low], known.leads[high]) for low, high in known.squeezed]
    for value in known.leaders():
        if value not in held and (known.marks[value] == 2 or settlers(known, value)):
            bounds.append((value, value))
    pairs = {}
    for low, high in bounds:
        behind = [value for value in held if value == high or known.ups[high] >> value & 1]
        for one in held:
            if one == low or known.ups[one] >> low & 1:
                for other in behind:
                    if one != other and not known.overs[one] >> other & 1:
                        pairs[(one, other)] = True
    return list(pairs)


def settlers(known, value):
    """The functions that settle, of which a leader is known as the result."""
    names = [name for name, rule in known.told_rules.items() if rule == "settles"]
    return [name for name in names if known.lead_of(known.calls.get((name, value), GONE)) == value]


def _without_bare(known, held, calls, shares):
    """The calls and shares without those whose results nothing else hangs on."""
    shares = _right_shares(known, held, shares)
    while True:
        results = [result for _, result in calls] + [result for share in shares for _, result in share]
        singles = [value for value in results
                   if value != GONE and value not in held and known.marks[value] == 0 and results.count(value) == 1]
        told = {value: settlers(known, value) for value in singles}
        left = [(key, value) for key, value in calls if told.get(value, [None]) not in ([], [key[0]])]
        rest = [[pair for pair in share if told.get(pair[1], [None]) != []] for share in shares]
        if left == calls and rest == shares:
            return calls, shares
        calls, shares = left, _right_shares(known, held, rest)


def _right_shares(known, held, shares):
    """The shares that can still tell anything, each once: lists of pairs that ascend."""
    found = {}
    for share in shares:
        results = {value: result for value, result in share if value in held}
        pairs = [(value, results[value]) for value in sorted(results)
                 if any([not known.unlikes[value] >> other & 1 for other in results if other != value])]
        worth = [result for _, result in pairs]
        if GONE in worth or any([result != worth[0] for result in worth]):
            found[tuple(pairs)] = True
    return [list(pairs) for pairs in found]
