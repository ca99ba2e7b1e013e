"""What is known of constants ahead of all else: by facts and by unlike pairs."""

from unknowncalls.closing import Known


def known_facts(constants, functions, rules, facts, apart):
    """What is known of the constants, which are numbered in their order."""
    numbers = {name: number for number, name in enumerate(constants)}
    known = Known(rules, len(numbers))
    # Constants never go: whether they are made of is never asked.
    known.mark(list(range(len(numbers))), 2)
    for name, given, worth in facts:
        values = [numbers[constant] for constant in given]
        if name in functions:
            known.learn(name, values, numbers[worth])
        else:
            known.answer(name, values, worth)
    for one, other in apart:
        known.make_unlike(numbers[one], numbers[other])
    return known
