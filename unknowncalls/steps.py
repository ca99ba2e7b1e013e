"""The statements of a loop as steps that can be gone through one by one.

A step is a tuple: a word, its place, a register, a name, its sources, and for an if the steps
of then and of else; what it lacks is None or empty. The test of an if has the name "same"
where it asks for equality: no test can be called so.
"""

SECTIONS = ("start", "turn", "end")


def steps_of(loop):
    """A dict from the words of the sections to their steps."""
    return {word: _steps((word,), loop.section(word)) for word in SECTIONS}


def way_of(steps, truths):
    """The steps that are come to by these answers: up to an if without one, where they are too few."""
    passed, todo, at = [], (steps, 0, None), 0
    while todo is not None:
        block, index, outer = todo
        if index == len(block):
            todo = outer
            continue
        step, todo = block[index], (block, index + 1, outer)
        passed.append(step)
        if step[0] == "leave" or (step[0] == "if" and at == len(truths)):
            todo = None
        elif step[0] == "if":
            todo = (step[5 if truths[at] else 6], 0, todo)
            at += 1
    return passed


def _steps(place, statements):
    return tuple([_step(place + (index,), statement) for index, statement in enumerate(statements)])


def _step(place, statement):
    word = statement[0]
    if word == "put":
        return (word, place, statement[1], None, statement[2:], (), ())
    if word in ("call", "do"):
        return (word, place, statement[1], statement[2], statement[3:], (), ())
    if word == "leave":
        return (word, place, None, None, (), (), ())
    test = statement[1]
    name, sources = (test[0], test[1:]) if test[0] == "same" else (test[1], test[2:])
    then, other = _steps(place + ("then",), statement[2]), _steps(place + ("else",), statement[3])
    return (word, place, None, name, sources, then, other)
