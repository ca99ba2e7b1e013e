"""Points [8] to [14] once more, written down as plainly as the document has them.

Loops are run in a world statement by statement, and pictures are found from sets of all that is
known, gathered anew from the beginning whenever something is added. It is slow, and shares no
code with the package.
"""

import itertools


def plain_deeds(loop, world, items, results):
    """The deeds of each section, and what is traced in it, of a loop in a world."""
    constants = {name: world.constant(name) for name in world.names.constants}
    lasting, left, deeds, traces = {}, False, [], []
    sections = [("start", None)] + [("turn", item) for item in items] + [("end", None)]
    for number, (word, item) in enumerate(sections):
        deeds.append([])
        traces.append([])
        if word == "turn" and left:
            continue
        env = {**lasting, **constants, "item": item}
        given = list(results[number]) if number < len(results) else []
        left = plain_block(loop.section(word), (word,), env, world, given, deeds[-1], traces[-1]) or left
        lasting = {name: env[name] for name in loop.lasting()}
    return deeds, traces


def plain_block(block, place, env, world, given, deeds, trace):
    """Does the statements; returns whether they leave."""
    for index, statement in enumerate(block):
        at, word = place + (index,), statement[0]
        if word == "leave":
            trace.append((at, None))
            return True
        if word == "if":
            test = statement[1]
            if test[0] == "same":
                truth = env[test[1]] == env[test[2]]
            else:
                truth = world.says(test[1], [env[name] for name in test[2:]])
            trace.append((at, truth))
            branch = "then" if truth else "else"
            if plain_block(statement[2 if truth else 3], at + (branch,), env, world, given, deeds, trace):
                return True
            continue
        if word == "put":
            value = env[statement[2]]
        elif word == "call":
            value = world.gives(statement[2], [env[name] for name in statement[3:]])
        else:
            value = given[len(deeds)] if len(deeds) < len(given) else 0
            deeds.append((statement[2], tuple(env[name] for name in statement[3:])))
        trace.append((at, value))
        if statement[1] is not None:
            env[statement[1]] = value
    return False


class Forgets(Exception):
    """A run forgets."""


class Cannot(Exception):
    """An answer is impossible."""


GONE = "gone"


class State:
    """All that is known, as it was told: each thing told is kept, and gathered from anew."""

    def __init__(self, rules):
        self.rules = rules
        self.values = []
        self.same, self.apart = [], []
        self.calls, self.said = [], []
        self.le, self.lt = [], []
        self.shares, self.squeezed = [], []
        self.made, self.touched = set(), set()
        self.gather()

    def copy(self):
        other = State(self.rules)
        for name in ("values", "same", "apart", "calls", "said", "le", "lt", "shares", "squeezed"):
            setattr(other, name, list(getattr(self, name)))
        other.made, other.touched = set(self.made), set(self.touched)
        other.gather()
        return other

    def order(self):
        return next((name for name, rule in self.rules.items() if rule == "order"), None)

    def ways(self, name, values):
        """The tuples of values by which a call, or a question, can be told."""
        either = self.rules.get(name) in ("swaps", "both")
        return {tuple(values), tuple(values)[::-1]} if either else {tuple(values)}

    def gather(self):
        """Closes what is told: sets the groups, what is unlike and the order."""
        self.group = {value: frozenset([value]) for value in self.values}
        self.noted = self.impossible = False
        le, lt = set(self.le), set(self.lt)
        unlike = {frozenset(pair) for pair in self.apart}
        joins = list(self.same)
        while True:
            before = (dict(self.group), set(le), set(lt), set(unlike))
            for one, other in joins:
                merged = self.group[one] | self.group[other]
                for value in merged:
                    self.group[value] = merged
            joins = self.same_results()
            pairs = [(x, y) for x in self.values for y in self.values]
            unlike |= {frozenset(pair) for pair in lt}
            everywhere = {(self.group[x], self.group[y]) for x, y in map(tuple, map(self.both, unlike))}
            everywhere |= {(y, x) for x, y in everywhere}
            ahead = {(self.group[x], self.group[y]) for x, y in le | lt}
            over = {(self.group[x], self.group[y]) for x, y in lt}
            for x, y in pairs:
                groups = (self.group[x], self.group[y])
                if groups in everywhere:
                    unlike.add(frozenset((x, y)))
                if groups in ahead:
                    le.add((x, y))
                if groups in over or ((x, y) in le and frozenset((x, y)) in unlike):
                    lt.add((x, y))
            rows = {}
            for x, y in le:
                rows.setdefault(x, []).append(y)
            for x, y in list(le):
                for z in rows.get(y, []):
                    le.add((x, z))
                    if (x, y) in lt or (y, z) in lt:
                        lt.add((x, z))
            joins += [(x, y) for x, y in le if (y, x) in le]
            if before == (self.group, le, lt, unlike) and all(self.eq(*pair) for pair in joins):
                break
        self.all_le, self.all_lt, self.unlike = le, lt, unlike
        self.impossible = (
            any(self.eq(*self.both(pair)) for pair in unlike)
            or any(self.eq(x, y) for x, y in lt)
            or any(name == other and truth != word and self.meet(name, values, told)
                   for name, values, truth in self.said for other, told, word in self.said))
        if any(self.eq(x, y) for x, y in self.squeezed):
            self.noted = True

    def both(self, pair):
        pair = tuple(pair)
        return (pair[0], pair[-1])

    def eq(self, one, other):
        return self.group[one] == self.group[other]

    def meet(self, name, values, others):
        return any(all(map(self.eq, way, others)) for way in self.ways(name, values))

    def settled_calls(self):
        more = [(name, (result,), result) for name, _, result in self.calls
                if self.rules.get(name) == "settles" and result != GONE]
        return self.calls + more

    def same_results(self):
        pairs = []
        calls = self.settled_calls()
        rows = [(one, other) for at, one in enumerate(calls) for other in calls[at + 1:]]
        for (name, values, result), (other, told, worth) in rows:
            if name == other and self.meet(name, values, told):
                pairs.append((result, worth))
        for share in self.shares:
            for (value, result), (other, worth) in itertools.combinations(sorted(share, key=repr), 2):
                if self.eq(value, other):
                    pairs.append((result, worth))
        if any(GONE in pair for pair in pairs):
            self.noted = True
        return [pair for pair in pairs if GONE not in pair]

    def new(self):
        self.values.append(len(self.values))
        self.group[self.values[-1]] = frozenset(self.values[-1:])
        return self.values[-1]

    def call(self, name, values):
        self.made |= set(values)
        for known, told, result in self.settled_calls():
            if known == name and self.meet(name, values, told):
                if result == GONE:
                    raise Forgets()
                return result
        result = self.new()
        self.calls.append((name, tuple(values), result))
        self.gather()
        return result

    def answer(self, name, values, truth):
        if name == "same":
            if truth:
                self.same.append(tuple(values))
            else:
                self.apart.append(tuple(values))
                self.made |= set(values)
        elif name == self.order():
            self.touched |= set(values)
            if truth:
                self.lt.append(tuple(values))
            else:
                self.le.append(tuple(values)[::-1])
        else:
            self.made |= set(values)
            self.said.append((name, tuple(values), truth))
        self.gather()
        if self.impossible:
            raise Cannot()
        if self.noted:
            raise Forgets()

    def is_made(self, value):
        return any(self.eq(value, other) for other in self.made)

    def is_touched(self, value):
        return self.is_made(value) or any(self.eq(value, other) for other in self.touched)

    def settlers(self, value):
        return {name for name, _, result in self.calls
                if self.rules.get(name) == "settles" and result != GONE and self.eq(result, value)}

    def cannot_be_equal(self, one, other):
        trial = self.copy()
        trial.same.append((one, other))
        trial.gather()
        return trial.impossible


def picture(state, left, holders):
    """Behind a section: holders is the list of pairs (holder, value), in order."""
    held = {state.group[value] for _, value in holders}
    stays = {value for value in state.values if state.group[value] in held}
    pairs = [(x, y) for x, y in itertools.combinations(sorted(stays), 2)
             if not state.eq(x, y) and frozenset((x, y)) not in state.unlike and state.cannot_be_equal(x, y)]
    for x, y in pairs:
        state.apart.append((x, y))
        state.made |= {x, y}
    state.gather()
    groups = {}
    for holder, value in holders:
        groups.setdefault(state.group[value], []).append(holder)
    number = {group: at for at, group in enumerate(groups)}

    def of(value):
        return GONE if value == GONE else state.group[value]

    calls = {(name, min([tuple(map(of, way)) for way in state.ways(name, values)], key=row_key), of(result))
             for name, values, result in state.settled_calls()}
    shares = {frozenset((of(value), of(result)) for value, result in share) for share in state.shares}
    going = {group for group in state.group.values() if group not in held}
    for name in {name for name, values, _ in calls if len(values) == 2}:
        rows = [row for row in calls if row[0] == name]
        for gone in going:
            places = [(0,), (1,)] if state.rules.get(name) != "swaps" else [(0, 1)]
            for some in places:
                shares.add(frozenset(
                    (values[1 - at], result) for _, values, result in rows for at in some
                    if values[at] == gone and values[1 - at] in held))
    calls = {row for row in calls if all(group in held for group in row[1])}

    def is_unlike(one, other):
        return frozenset((min(one), min(other))) in state.unlike

    def right(shares):
        found = set()
        for share in shares:
            while True:
                less = frozenset(
                    (value, result) for value, result in share if value in held
                    and any(not is_unlike(value, other) for other, _ in share - {(value, result)}))
                if less == share:
                    break
                share = less
            results = {result for _, result in share}
            if len(share) >= 2 and (len(results) > 1 or GONE in results):
                found.add(share)
        return found

    shares = right(shares)
    while True:
        entries = [("call", row) for row in calls] + [("pair", (share, pair)) for share in shares for pair in share]
        for group in sorted(going, key=min):
            mine = [entry for entry in entries if (entry[1][2] if entry[0] == "call" else entry[1][1][1]) == group]
            if state.is_touched(min(group)) or len(mine) != 1:
                continue
            kind, what = mine[0]
            allowed = {what[0]} if kind == "call" else set()
            if state.settlers(min(group)) - allowed:
                continue
            if kind == "call":
                calls.discard(what)
            else:
                shares = (shares - {what[0]}) | {what[0] - {what[1]}}
            shares = right(shares)
            break
        else:
            break

    def result_number(result):
        return number.get(result, -1)

    def in_order(x, y):
        return x == y or (min(x), min(y)) in state.all_le

    squeezers = [group for group in going if state.is_made(min(group)) or state.settlers(min(group))]
    squeezed = set()
    for a, b in itertools.permutations(groups, 2):
        if not in_order(a, b) or (min(a), min(b)) in state.all_lt:
            continue
        if any(in_order(a, h) and in_order(h, b) for h in squeezers) or any(
                in_order(a, of(c)) and in_order(of(d), b) for c, d in state.squeezed):
            squeezed.add((number[a], number[b]))

    def numbers(name, values):
        row = tuple(number[group] for group in values)
        return tuple(sorted(row)) if state.rules.get(name) in ("swaps", "both") else row

    return (
        left,
        tuple(tuple(row) for row in groups.values()),
        tuple(2 if state.is_made(min(group)) or any(side == 0 for side, _ in groups[group])
              else int(state.is_touched(min(group))) for group in groups),
        tuple(sorted({(name, numbers(name, values), result_number(result)) for name, values, result in calls})),
        tuple(sorted({(name, numbers(name, map(of, values)), truth) for name, values, truth in state.said
                      if all(of(value) in held for value in values)})),
        tuple(sorted({tuple(sorted((number[a], number[b]))) for a, b in itertools.combinations(groups, 2)
                      if is_unlike(a, b)})),
        tuple(sorted((number[a], number[b], (min(a), min(b)) in state.all_lt)
                     for a, b in itertools.permutations(groups, 2) if in_order(a, b))),
        tuple(sorted({tuple(sorted((number[value], result_number(result)) for value, result in share))
                      for share in shares})),
        tuple(sorted(squeezed)),
    )


def row_key(groups):
    return [sorted(group) for group in groups]


def first_state(names):
    """What is known ahead of the start, and what each constant is."""
    state = State(names.rules())
    value = {name: state.new() for name in names.constants}
    for name, given, worth in names.facts():
        given = tuple(value[constant] for constant in given)
        if name in names.functions():
            state.calls.append((name, given, value[worth]))
        elif names.rules().get(name) == "order":
            (state.lt if worth else state.le).append(given if worth else given[::-1])
        else:
            state.said.append((name, given, worth))
    state.apart = [(value[x], value[y]) for x, y in names.apart()]
    state.gather()
    return state, {(0, name): value[name] for name in names.constants}


def state_of(rules, told):
    """What is known ahead of a section, by a picture; also what each holder has."""
    _, groups, made, calls, said, unlike, order, shares, squeezed = told
    state = State(rules)
    for _ in groups:
        state.new()
    back = {-1: GONE}
    state.calls = [(name, values, back.get(result, result)) for name, values, result in calls]
    state.said = list(said)
    state.apart = list(unlike)
    state.le = [(x, y) for x, y, _ in order]
    state.lt = [(x, y) for x, y, strict in order if strict]
    state.shares = [frozenset((value, back.get(result, result)) for value, result in share) for share in shares]
    state.squeezed = list(squeezed)
    state.made = {at for at, mark in enumerate(made) if mark == 2}
    state.touched = {at for at, mark in enumerate(made) if mark == 1}
    state.gather()
    return state, {holder: at for at, holders in enumerate(groups) for holder in holders}


class Section:
    """One section of a run, with the answers that are given ahead; it tells what is wanted else."""

    def __init__(self, pair, state, holders, left, word):
        self.pair, self.state, self.left = pair, state, list(left)
        self.constants = {name: value for (side, name), value in holders.items() if side == 0}
        self.envs = [{name: value for (side, name), value in holders.items() if side == number} for number in (1, 2)]
        self.word = word
        self.item = state.new() if word == "turn" else None
        self.deeds, self.results = ([], []), []

    def run(self, answers):
        """Returns None, or the side and place of the question behind these answers, or a forgetting."""
        self.told = ([], [])
        answers = list(answers)
        for side in (0, 1):
            loop = self.pair[side]
            if self.word == "turn" and self.left[side]:
                continue
            env = {**self.envs[side], **self.constants, "item": self.item}
            found = self.block(loop.section(self.word), (self.word,), side, env, answers)
            if found in ("wanted", "forgets"):
                return found
            self.left[side] = self.left[side] or found == "leave"
            self.envs[side] = {name: env[name] for name in loop.lasting()}
        return None

    def block(self, block, place, side, env, answers):
        for index, statement in enumerate(block):
            self.place, self.side = place + (index,), side
            self.see(statement, env)
            word = statement[0]
            if word == "leave":
                return "leave"
            if word == "if":
                if not answers:
                    return "wanted"
                truth = answers.pop(0)
                self.told[side].append(truth)
                test = statement[1]
                name, sources = ("same", test[1:]) if test[0] == "same" else (test[1], test[2:])
                try:
                    self.state.answer(name, [env[source] for source in sources], truth)
                except Forgets:
                    return "forgets"
                self.see_answer(truth)
                branch = self.place + ("then" if truth else "else",)
                found = self.block(statement[2 if truth else 3], branch, side, env, answers)
                if found:
                    return found
                continue
            if word == "put":
                env[statement[1]] = env[statement[2]]
            elif word == "call":
                try:
                    env[statement[1]] = self.state.call(statement[2], [env[name] for name in statement[3:]])
                except Forgets:
                    return "forgets"
            else:
                number = len(self.deeds[side])
                self.deeds[side].append((statement[2], [env[name] for name in statement[3:]]))
                if number == len(self.results):
                    self.results.append(self.state.new())
                if statement[1] is not None:
                    env[statement[1]] = self.results[number]
        return None

    def see(self, statement, env):
        """A statement is come to."""

    def see_answer(self, truth):
        """The if at this place is answered."""

    def picture(self):
        held = [((side + 1, name), self.envs[side][name]) for side in (0, 1) for name in self.pair[side].lasting()]
        held += [((0, name), self.constants[name]) for name in self.pair[0].names.constants]
        return picture(self.state, tuple(self.left), held)

    def parts(self):
        one, other = self.deeds
        return len(one) != len(other) or any(
            deed != name or not all(map(self.state.eq, values, others))
            for (deed, values), (name, others) in zip(one, other))


class PlainWalk:
    """All pictures, partings and forgettings of two loops."""

    def __init__(self, one, other, most=60):
        self.pair, self.rules = (one, other), one.names.rules()
        self.pictures, self.parted, self.forgotten = [], None, None
        self.is_whole, self.most = True, most
        level = self.section([(*first_state(one.names), (False, False))], "start", 0)
        items = 0
        while level and self.is_whole:
            self.section([self.begun(told) for told in level], "end", items)
            items += 1
            level = self.section(
                [self.begun(told) for told in level if told[0] != (True, True)], "turn", items)

    def begun(self, told):
        return (*state_of(self.rules, told), told[0])

    def section(self, begun, word, items):
        news = []
        for state, holders, left in begun:
            todo = [()]
            if len(self.pictures) > self.most:
                self.is_whole = False
                break
            while todo:
                answers = todo.pop()
                section = Section(self.pair, state.copy(), dict(holders), left, word)
                try:
                    found = section.run(answers)
                except Cannot:
                    continue
                if found == "wanted":
                    todo += [answers + (True,), answers + (False,)]
                elif found == "forgets":
                    sections = items + (2 if word == "end" else 1)
                    self.forgotten = min(self.forgotten or sections, sections)
                else:
                    if section.parts():
                        self.parted = items if self.parted is None else self.parted
                    if word != "end":
                        told = section.picture()
                        if told not in self.pictures:
                            self.pictures.append(told)
                            news.append(told)
        return news


def forgets_at(one, other, answers, word):
    """The side and the place at which the run with these answers forgets in its last section, None if it does not."""
    state, holders = first_state(one.names)
    left = (False, False)
    for index, pair in enumerate(answers):
        last = index == len(answers) - 1
        section = Section((one, other), state, holders, left, "start" if not index else word if last else "turn")
        found = section.run([*pair[0], *pair[1]])
        if last or found is not None:
            same = section.told == (list(pair[0]), list(pair[1]))
            return (section.side + 1, section.place) if last and found == "forgets" and same else None
        told = section.picture()
        (state, holders), left = state_of(one.names.rules(), told), told[0]
    return None
