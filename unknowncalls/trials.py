"""Which held values cannot be equal, by all that is known.

Most pairs are told apart, or found possible, by what follows at once when they are joined; the
others are joined on trial.
"""

from unknowncalls.closing import EITHER_WAY, GONE, bits


def impossible_pairs(known, held):
    """The pairs of held leaders, the lesser one first, that cannot be equal, but for those known unlike."""
    found, following = _opposed(known, held), {}
    calls = {key: known.lead_of(result) for key, result in known.calls.items()}
    for pair, result, worth in _meetings(known, calls, known.share_rows(), held):
        if result != worth and GONE not in (result, worth) and not known.unlikes[pair[0]] >> pair[1] & 1:
            following.setdefault(pair, []).append((result, worth))
    for pair, value in _between(known, held):
        following.setdefault(pair, []).append((pair[0], value))
    used = _used(known) if following else 0
    for pair, joinings in following.items():
        if pair not in found and not _can_be(known, used, pair, joinings):
            found[pair] = True
    return list(found)


def _opposed(known, held):
    """A dict with the pairs of held leaders that a test tells apart, and that are not known unlike, as its keys."""
    found, masks = {}, ({}, {})
    for key, truth in known.said.items():
        for slot, value in _slots_of(known, key, held):
            masks[truth][slot] = masks[truth].get(slot, 0) | 1 << value
    for slot, others in masks[False].items():
        mask = masks[True].get(slot, 0)
        for one in bits(mask) if mask else ():
            more = others & ~known.unlikes[one]
            for other in bits(more) if more else ():
                found[_ascending(one, other)] = True
    for pair, truth, word in _both_ways(known.said, held):
        if truth != word and not known.unlikes[pair[0]] >> pair[1] & 1:
            found[pair] = True
    return found


def _can_be(known, used, pair, joinings):
    """Whether a pair can be equal, from whose joining these joinings follow at once."""
    result, worth = joinings[0]
    if known.unlikes[result] >> worth & 1:
        return False
    # Nothing more follows from a joining of two values that nothing is asked or called of.
    if len(joinings) == 1 and not used >> result & 1 and not used >> worth & 1:
        return True
    return known.can_be_equal(pair[0], pair[1])


def _meetings(known, table, shares, held):
    """The pairs of held values from whose joining something follows, each with what is known of both."""
    found = _both_ways(table, held)
    slots = {}
    for key, worth in table.items():
        for slot, value in _slots_of(known, key, held):
            slots.setdefault(slot, []).append((value, worth))
    kept = [[row for row in share if row[0] in held] for share in shares]
    for rows in list(slots.values()) + kept:
        for at, (one, worth) in enumerate(rows):
            for other, word in rows[at + 1:]:
                found.append((_ascending(one, other), worth, word))
    return found


def _both_ways(table, held):
    """The pairs of held values in one key, with what is known of it, and of a key that is the same by their joining."""
    found = []
    for key, worth in table.items():
        if len(key) == 3 and key[1] != key[2] and key[1] in held and key[2] in held:
            name, one, other = key
            for same in ((name, one, one), (name, other, other), (name, other, one)):
                if same in table:
                    found.append((_ascending(one, other), worth, table[same]))
    return found


def _ascending(one, other):
    return (one, other) if one < other else (other, one)


def _slots_of(known, key, held):
    """The pairs of a slot and the held value that stands there in a key.

    A slot is a name and a place, with the other value that stands beside the one at this
    place: from the joining of two values something follows in the slots that both have.
    """
    name, one, other = key[0], key[1], key[-1]
    if one == other:
        return [(name, one)] if one in held else []
    slots = [((name, 1, other), one)] if one in held else []
    if other in held:
        place = 1 if known.told_rules.get(name) in EITHER_WAY else 2
        slots.append(((name, place, one), other))
    return slots


def _between(known, held):
    """The pairs of held values of which one is not behind the other, each with the values between both."""
    if not known.is_ordered:
        return []
    found = []
    for low in held:
        for high in bits(known.ups[low] & ~known.unlikes[low]):
            if high in held:
                found.extend([(_ascending(low, high), value) for value in bits(known.ups[low])
                              if known.ups[value] >> high & 1])
    return found


def _used(known):
    """The values that something is known of, as a mask, but for that they are results."""
    used = 0
    for key in [*known.calls, *known.said]:
        used |= 1 << key[1] | 1 << key[-1]
    for rows in known.share_rows():
        for value, _ in rows:
            used |= 1 << value
    for value, up in enumerate(known.ups):
        if up:
            used |= 1 << value | up
    return used
