"""The definitions of the document, reckoned afresh from the rules of a program, as plainly as they stand there."""

from fractions import Fraction


def plain_row(program, state):
    """The row of a state."""
    row = []
    for mode in program.modes():
        block = (1,) + state[1]
        row.extend(block if mode == state[0] else [0] * len(block))
    return tuple(row)


def plain_table(program, event):
    """The table of an event, number by number from the rules."""
    size = len(program.registers()) + 1
    registers = program.registers()
    table = [[0] * program.width for _ in range(program.width)]
    for at, mode in enumerate(program.modes()):
        rule = program.rule(mode, event[0]) or (mode, event[0], mode, ())
        behind = program.modes().index(rule[2])
        changes = dict(rule[3])
        table[at * size][behind * size] = 1
        for column, target in enumerate(registers, start=1):
            for source, factor in changes.get(target, ((target, 1),)):
                if source in registers:
                    line, part = registers.index(source) + 1, factor
                else:
                    line, part = 0, factor * {"one": 1, "amount": event[1]}[source]
                table[at * size + line][behind * size + column] += part
    return tuple(tuple(row) for row in table)


def plain_rank(rows):
    """The rank by elimination over rational numbers."""
    left = [[Fraction(number) for number in row] for row in rows]
    found = 0
    for column in range(len(rows[0]) if rows else 0):
        lead = next((at for at in range(found, len(left)) if left[at][column] != 0), None)
        if lead is None:
            continue
        left[found], left[lead] = left[lead], left[found]
        for at in range(found + 1, len(left)):
            part = left[at][column] / left[found][column]
            left[at] = [one - part * other for one, other in zip(left[at], left[found])]
        found += 1
    return found


def plain_times(row, table):
    """The product of a row, also of fractions, and a table."""
    return tuple(sum(row[i] * table[i][j] for i in range(len(table))) for j in range(len(table[0])))


def is_int(value, least=None, most=None):
    """Whether any value is an integer, not below the least one and not above the most, where they are told."""
    return type(value) is int and (least is None or value >= least) and (most is None or value <= most)


class Stretches:
    """What the document says of the places and the stretches of a log with these events."""

    def __init__(self, program, events):
        self.program = program
        self.width = program.width
        self.size = len(events)
        self._single = [plain_table(program, event) for event in events]
        self._tables = {}
        self._ranks = {}
        self.cuts = [list(range(self.size + 1))]
        for level in range(1, self.width + 1):
            self.cuts.append(self._sparser(self.cuts[-1], self.width - level + 1))

    def _sparser(self, places, rank):
        """The cuts of a level, of those of the level below it and of the rank that lets a stretch go on."""
        found = [0]
        for place in places[1:]:
            if self.rank(found[-1], place) != rank:
                found.append(place)
        return found

    def table(self, first, last):
        """The table of the stretch."""
        if first == last:
            return tuple(tuple(int(i == j) for j in range(self.width)) for i in range(self.width))
        if (first, last) not in self._tables:
            rows = self.table(first, last - 1)
            self._tables[first, last] = tuple(plain_times(row, self._single[last - 1]) for row in rows)
        return self._tables[first, last]

    def rank(self, first, last):
        """The rank of the table of the stretch."""
        if (first, last) not in self._ranks:
            self._ranks[first, last] = plain_rank(self.table(first, last))
        return self._ranks[first, last]

    def height(self, place):
        """The greatest level of which the place is a cut."""
        return max(level for level in range(self.width + 1) if place in self.cuts[level])

    def kept(self, place, level):
        """The kept table of the place at the level."""
        beginning = max(cut for cut in self.cuts[level] if cut < place)
        return beginning, self.table(beginning, place)

    def lots(self):
        """The right lists of all kept tables, as first_wrong wants them."""
        levels = range(self.width + 1)
        return [[self.kept(place, level) for level in levels] for place in range(1, self.size + 1)]

    def way(self, first, last):
        """The parts of the way, and the names of the rules by which they were made."""
        left, right, level = first, last, 1
        early, late, met = [], [], []
        while left < right:
            cuts = self.cuts[level]
            near = min(cut for cut in self.cuts[level - 1] if cut > left)
            if not any(left < cut <= right for cut in cuts):
                if left in cuts:
                    early.append(("step", right, level))
                    met.append("last, left is a cut")
                elif near == right:
                    early.append(("step", right, level - 1))
                    met.append("last, one step")
                else:
                    early.append(("twin", near, right, level))
                    met.append("last, a twin")
                break
            if right not in cuts:
                late.insert(0, ("step", right, level))
                right = max(cut for cut in cuts if cut < right)
                met.append("right is no cut")
            else:
                met.append("right is a cut")
            if left not in cuts:
                goal = min(cut for cut in cuts if cut > left)
                early.append(("step", goal, level - 1) if near == goal else ("twin", near, goal, level))
                met.append("left, one step" if near == goal else "left, a twin")
                left = goal
            else:
                met.append("left is a cut")
            level += 1
        return early + late, met

    def holds(self, paper):
        """Whether the paper holds."""
        values = (paper.first, paper.last)
        if not all(is_int(value, 0, self.size) for value in values) or paper.first > paper.last:
            return False
        if not self.is_row(paper.start) or not self.is_row(paper.end) or type(paper.parts()) is not list:
            return False
        place, row = paper.first, paper.start
        if not all(self.is_part(part) for part in paper.parts()):
            return False
        for part in paper.parts():
            near, level = part[1], part[-1] if part[0] == "step" else part[3] - 1
            beginning, table = self.kept(near, level)
            if beginning != place:
                return False
            place, row = near, plain_times(row, table)
            if part[0] == "twin":
                place, row = self._behind_twin(part, row)
            if row is None:
                return False
        return (place, row) == (paper.last, paper.end)

    def _behind_twin(self, part, row):
        """The place and the row behind a twin, of which the row at near is known; None for the row if it is wrong."""
        _, near, far, level, numerators, denominator = part
        mine = tuple(Fraction(number, denominator) for number in numerators)
        one, table = self.kept(near, level)
        other, far_table = self.kept(far, level)
        behind = plain_times(mine, far_table)
        if one != other or plain_times(mine, table) != row:
            return far, None
        return far, behind if all(number == int(number) for number in behind) else None

    def is_row(self, value):
        return type(value) is tuple and len(value) == self.width and all(is_int(number) for number in value)

    def is_part(self, value):
        if type(value) is not tuple or len(value) not in (3, 6):
            return False
        if len(value) == 3:
            return value[0] == "step" and is_int(value[1], 1, self.size) and is_int(value[2], 0, self.width)
        places = is_int(value[1], 1, self.size) and is_int(value[2], 1, self.size)
        levels = is_int(value[3], 1, self.width)
        return value[0] == "twin" and places and levels and self.is_row(value[4]) and is_int(value[5], 1)

    def falls(self, first, last):
        """The falls from first on up to last."""
        ranks = [self.rank(first, place) for place in range(first, last + 1)]
        return [(first + at, ranks[at]) for at in range(1, len(ranks)) if ranks[at] < ranks[at - 1]]

    def meeting(self, first, one, other):
        """The first place from first on at which the two states are the same, or None."""
        rows = [plain_row(self.program, state) for state in (one, other)]
        for place in range(first, self.size + 1):
            if len({plain_times(row, self.table(first, place)) for row in rows}) == 1:
                return place
        return None

    def needed_from(self, place):
        """The greatest place ahead of which nothing is needed at the place, or None."""
        return max((first for first in range(place + 1) if self.rank(first, place) == 1), default=None)


def plain_block(program, table, mode):
    """The rows of a table for the mode: that of 1, and those of the registers."""
    size = len(program.registers()) + 1
    at = program.modes().index(mode) * size
    return list(table[at]), [list(row) for row in table[at + 1:at + size]]


def has_starts(program, table, end, mode):
    """Whether rational values in the mode lead to the end by this table."""
    base, rows = plain_block(program, table, mode)
    rest = [mine - theirs for mine, theirs in zip(plain_row(program, end), base)]
    return plain_rank(rows + [rest]) == plain_rank(rows)


def leads(program, table, mode, values, row):
    """Whether these values, of fractions, in the mode lead to the row by this table."""
    base, rows = plain_block(program, table, mode)
    found = [start + sum(value * line[at] for value, line in zip(values, rows)) for at, start in enumerate(base)]
    return tuple(found) == tuple(row)


def plain_pieces(events, first, last, edits):
    """The events of the edited stretch, each with the index that it has in the log, or None where it is a new one."""
    found = []
    for place in range(first, last + 1):
        found += [(edit[2], None) for edit in edits if edit[0] == "put" and edit[1] == place]
        changed = [edit for edit in edits if edit[0] != "put" and edit[1] == place]
        if changed:
            found += [(edit[2], None) for edit in changed if edit[0] == "change"]
        elif place < last:
            found.append((events[place], place))
    return found


def plain_edited(events, first, last, edits):
    """The events of the edited stretch."""
    return [event for event, _ in plain_pieces(events, first, last, edits)]


def plain_plan(events, first, last, edits):
    """The plan: runs as long as the indexes follow each other, and the new events."""
    found = []
    for event, index in plain_pieces(events, first, last, edits):
        if index is None:
            found.append(("event", event))
        elif found and found[-1][0] == "run" and found[-1][2] == index:
            found[-1] = ("run", found[-1][1], index + 1)
        else:
            found.append(("run", index, index + 1))
    return found


def plain_value(program, look, state):
    """The value of a look at a state."""
    mode, values = state
    known = dict(zip(program.registers(), values))
    known["one"] = 1
    total = 0
    for source, factor in dict(look).get(mode, ()):
        total += factor * known[source]
    return total


class Pair:
    """Two probes, each told by a program, a start and a look, of which the rules are read event by event."""

    def __init__(self, one, other, moved):
        self.sides = [(probe.program, probe.start, probe.look()) for probe in (one, other)]
        self._moved = moved
        self._states = {}

    def states(self, events):
        """The two states behind the events."""
        events = tuple(events)
        if not events:
            return tuple(start for _, start, _ in self.sides)
        if events not in self._states:
            ahead = self.states(events[:-1])
            self._states[events] = tuple(
                self._moved(program, state, events[-1]) for (program, _, _), state in zip(self.sides, ahead))
        return self._states[events]

    def values(self, events):
        """The two values for the events."""
        return [plain_value(program, look, state) for (program, _, look), state in zip(self.sides, self.states(events))]

    def row(self, events):
        """The pair row for the events."""
        rows = [plain_row(program, state) for (program, _, _), state in zip(self.sides, self.states(events))]
        return rows[0] + rows[1]

    def steps(self, amounts=(0, 1)):
        """All events of the signs with these amounts."""
        return [(sign, amount) for sign in self.sides[0][0].signs() for amount in amounts]

    def is_list(self, value):
        """Whether a value is a list of events, which both programs have."""
        return type(value) in (list, tuple) and all(
            program.is_event(event) for event in value for program, _, _ in self.sides)

    def has_same_signs(self):
        return set(self.sides[0][0].signs()) == set(self.sides[1][0].signs())

    def alike_holds(self, logs):
        """Whether an Alike with these lists holds."""
        if not self.has_same_signs() or type(logs) not in (list, tuple):
            return False
        if not all(self.is_list(log) for log in logs):
            return False
        rows = [self.row(log) for log in logs]
        wanted = [self.row([])] + [self.row([*log, event]) for log in logs for event in self.steps()]
        # Sums of the others do not add to the rank.
        if plain_rank(rows + wanted) > plain_rank(rows):
            return False
        return all(self.values(log)[0] == self.values(log)[1] for log in logs)

    def apart_holds(self, events):
        """Whether an Apart with these events holds."""
        if not self.has_same_signs() or not self.is_list(events):
            return False
        return self.values(events)[0] != self.values(events)[1]
