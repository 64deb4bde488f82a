"""Promise 23: desks, the lines that they answer, and their answers."""

from twinbegun.desk import Desk
from twinbegun.programs import Program
from twinbegun.workspaces import Workspace
from tests.checks import Checks, bare, cash, chance, drops, lights, samples
from tests.models import PlainWorkspace

MOST = 10 ** 12
NO_NUMBERS = ["00", "01", "-0", "-01", "+1", "--1", "-", "1-", "1.0", "1e3", "0x1", "1_0", "a", "1a", "one", "9" * 61,
              "-" + "9" * 61, "0" * 60, "3\n", "\n3", "\n"]
ODD_NAMES = ["A", "abcdefg", "one", "amount", "a1", "1", "-5", "*", ";", "=", "a*b", ".", "a\n", "\na", "\n", "new", "undo"]
# Lines that filled() answers, and that each can have a word too much or too little.
RIGHT = ["new c", "put a pay 3", "cut a 0", "branch a c", "drop a", "undo", "redo", "names", "ask a 0 2 on 5", "rank a 0 2",
         "height a 2"]


def desk(program=None, limit=8):
    """A desk of an empty workspace."""
    return Desk(Workspace(program or cash(), limit=limit))


def filled():
    """A desk whose workspace has the logs a, of three events, and b, of none."""
    found = desk()
    for line in ("new a", "new b", "put a pay 3", "put a reset 0", "put a pay 2"):
        found.say(line)
    return found


class Asked(Checks):
    def same(self, found, pairs):
        """The desk answers each of these lines as told."""
        for line, answer in pairs:
            self.assert_same(found.say(line), answer)

    def refuse(self, found, line, answer="invalid"):
        """The line is refused, and nothing has changed."""
        before = self.told(found.workspace())
        self.assert_same((line, found.say(line)), (line, answer))
        self.assert_same(self.told(found.workspace()), before)

    def told(self, workspace):
        logs = {name: workspace.log_of(name).events() for name in workspace.names()}
        return logs, workspace.history(), workspace.limit, workspace.busy


class Answers(Asked):
    def test_changes(self):
        found = desk()
        workspace = found.workspace()
        self.same(found, [("new may", "ok"), ("put may pay 3", "ok"), ("put may reset -4", "ok"), ("new june", "ok")])
        self.assert_same(workspace.log_of("may").events(), [("pay", 3), ("reset", -4)])
        self.same(found, [("branch may april", "ok"), ("cut may 1", "ok"), ("drop june", "ok")])
        self.assert_same(workspace.names(), ["april", "may"])
        self.assert_same(workspace.log_of("april").events(), [("pay", 3), ("reset", -4)])
        self.assert_same(workspace.log_of("may").events(), [("pay", 3)])
        self.assert_same(workspace.history(), (7, 0))
        self.same(found, [("undo", "ok"), ("undo", "ok"), ("undo", "ok"), ("redo", "ok")])
        self.assert_same((workspace.names(), workspace.history()), (["april", "june", "may"], (5, 2)))
        self.same(found, [("cut april 0", "ok"), ("redo", "error NothingLeft")])
        self.assert_same(workspace.log_of("april").events(), [])

    def test_names(self):
        found = desk(limit=12)
        self.same(found, [("names", "none"), ("new b", "ok"), ("names", "b"), ("new abc", "ok"), ("new a", "ok"),
                          ("names", "a abc b"), ("drop abc", "ok"), ("names", "a b"), ("undo", "ok"), ("names", "a abc b")])

    def test_ask(self):
        found = filled()
        self.same(found, [
            ("ask a 0 3 on 5", "on 2"), ("ask a 0 1 on 5", "on 8"), ("ask a 0 2 on 5", "on 0"), ("ask a 2 3 on -7", "on -5"),
            ("ask a 1 1 on 0", "on 0"), ("ask a 3 3 on " + "9" * 60, "on " + "9" * 60), ("ask b 0 0 on -1", "on -1"),
            ("ask a 2 3 on -" + "9" * 60, "on -" + "9" * 59 + "7"),
        ])
        found = desk(bare())
        self.same(found, [("new a", "ok"), ("put a go 0", "ok"), ("put a go 7", "ok"), ("ask a 0 2 a", "c"), ("ask a 1 2 d", "d"),
                          ("ask a 0 2 a 1", "invalid"), ("ask a 0 2", "invalid"), ("ask a 0 2 x", "error InvalidState")])
        found = desk(lights())
        self.same(found, [("new a", "ok"), ("put a swap 0", "ok"), ("put a off 1", "ok"), ("put a on 2", "ok"),
                          ("ask a 0 1 on 1 -2 3", "on -2 1 3"), ("ask a 0 2 on 1 -2 3", "off -2 1 3"),
                          ("ask a 0 3 on 1 -2 3", "on -2 1 2003"), ("ask a 0 3 on 1 -2", "invalid"),
                          ("ask a 0 3 on 1 -2 3 4", "invalid"), ("ask a 0 3 on", "invalid")])

    def test_rank_and_height(self):
        found = desk(drops())
        self.same(found, [("new a", "ok"), ("put a add 1", "ok"), ("put a noa 0", "ok"), ("put a add 2", "ok"),
                          ("put a nob 0", "ok"), ("put a noa 0", "ok")])
        self.assert_same([found.say(f"height a {place}") for place in range(6)], ["3", "0", "1", "0", "2", "1"])
        self.assert_same([found.say(f"rank a 0 {place}") for place in range(6)], ["3", "3", "2", "2", "1", "1"])
        self.assert_same([found.say(f"rank a {place} 5") for place in range(6)], ["1", "1", "1", "1", "2", "3"])

    def test_questions_are_no_steps(self):
        found = filled()
        found.say("undo")
        before = self.told(found.workspace())
        for line in ("names", "ask a 0 2 on 5", "rank a 0 2", "height a 2", "ask c 0 0 on 5", "rank a 2 1", "height a 9", "hello"):
            found.say(line)
            self.assert_same(self.told(found.workspace()), before)
        self.same(found, [("redo", "ok"), ("ask a 0 3 on 5", "on 2")])

    def test_errors_of_changes(self):
        found = filled()
        for name in ODD_NAMES[:-2]:
            self.refuse(found, f"new {name}", "error InvalidName")
            self.refuse(found, f"branch a {name}", "error InvalidName")
        for name in [*ODD_NAMES, "c"]:
            self.refuse(found, f"put {name} pay 3", "error UnknownName")
            self.refuse(found, f"put {name} none {MOST + 1}", "error UnknownName")
            self.refuse(found, f"cut {name} 0", "error UnknownName")
            self.refuse(found, f"branch {name} c", "error UnknownName")
            self.refuse(found, f"drop {name}", "error UnknownName")
        self.refuse(found, "new a", "error DuplicateName")
        self.refuse(found, "branch a b", "error DuplicateName")
        self.refuse(found, "branch a a", "error DuplicateName")
        for event in ["non 3", f"pay {MOST + 1}", f"pay -{MOST + 1}", "on 3", "cash 3", "PAY 3", "pay\n 3", "* 3", "pay " + "9" * 60]:
            self.refuse(found, f"put a {event}", "error InvalidEvent")
        for place in (4, -1, MOST, -MOST, "9" * 60, "-" + "9" * 60):
            self.refuse(found, f"cut a {place}", "error InvalidPlace")
        self.refuse(found, "redo", "error NothingLeft")
        self.refuse(desk(), "undo", "error NothingLeft")
        found = desk(limit=1)
        self.same(found, [("new a", "ok")])
        self.refuse(found, "new b", "error Full")
        self.refuse(found, "branch a b", "error Full")
        found.workspace().apply(*[("put", "a", ("pay", 1))] * 200)
        self.refuse(found, "put a pay 1", "error Full")
        self.refuse(found, "put a pays 1", "error InvalidEvent")

    def test_errors_of_questions(self):
        found = filled()
        for name in [*ODD_NAMES, "c"]:
            self.refuse(found, f"ask {name} 0 1 on 5", "error UnknownName")
            self.refuse(found, f"ask {name} 9 1 none 5", "error UnknownName")
            self.refuse(found, f"rank {name} 0 0", "error UnknownName")
            self.refuse(found, f"rank {name} 9 1", "error UnknownName")
            self.refuse(found, f"height {name} -1", "error UnknownName")
        for places in ("0 4", "4 4", "2 1", "-1 1", "0 -1", "3 2", "0 " + "9" * 60):
            self.refuse(found, f"ask a {places} on 5", "error InvalidRange")
            self.refuse(found, f"ask a {places} off 5", "error InvalidRange")
            self.refuse(found, f"rank a {places}", "error InvalidRange")
        for mode in [*ODD_NAMES, "off", "cash", "pay"]:
            self.refuse(found, f"ask a 0 3 {mode} 5", "error InvalidState")
        for place in (4, -1, MOST, "9" * 60):
            self.refuse(found, f"height a {place}", "error InvalidPlace")
            self.refuse(found, f"height b {place}", "error InvalidPlace")

    def test_invalid_numbers(self):
        found = filled()
        for number in NO_NUMBERS:
            for line in ("put a pay {}", "put z pay {}", "cut a {}", "ask a {} 3 on 5", "ask a 0 {} on 5", "ask a 0 3 on {}",
                         "ask z 0 3 on {}", "rank a {} 3", "rank a 0 {}", "rank z 0 {}", "height a {}", "height z {}"):
                self.refuse(found, line.format(number))

    def test_invalid_words(self):
        found = filled()
        words = ["", " ", "\n", "hello", "NEW", "New a", "ne a", "news a", "a", "0", "new\n", "names\n", "undo\n", "redo\n",
                 "\nundo", "new\na", "undo\nundo", "set a", "limit 3", "apply new a", "say names", "*", "-", "None"]
        for line in words:
            self.refuse(found, line)

    def test_too_few_and_too_many_words(self):
        found = filled()
        for line in RIGHT:
            words = line.split(" ")
            for many in range(1, len(words)):
                self.refuse(found, " ".join(words[:many]))
            for more in ("3", "a", "on", "a 3"):
                self.refuse(found, f"{line} {more}")

    def test_empty_words(self):
        found = filled()
        found.say("undo")
        for line in RIGHT:
            words = line.split(" ")
            for at in range(len(words) + 1):
                self.refuse(found, " ".join(words[:at] + [""] + words[at:]))
                if at < len(words):
                    self.refuse(found, " ".join(words[:at] + [""] + words[at + 1:]))
            self.refuse(found, line + "  ")
            self.refuse(found, "  " + line)

    def test_newlines_belong_to_their_words(self):
        found = filled()
        self.same(found, [
            ("new c\n", "error InvalidName"), ("drop a\n", "error UnknownName"), ("branch a\n c", "error UnknownName"),
            ("branch a c\n", "error InvalidName"), ("put a pay 3\n", "invalid"), ("put a pay\n 3", "error InvalidEvent"),
            ("cut a 0\n", "invalid"), ("ask a 0 3 on 5\n", "invalid"), ("ask a 0 3 on\n 5", "error InvalidState"),
            ("rank a 0 3\n", "invalid"), ("height a 3\n", "invalid"), ("height a\n 3", "error UnknownName"),
            ("names\n", "invalid"), ("undo\n", "invalid"), ("new\n c", "invalid"), ("new a\nb", "error InvalidName"),
        ])
        self.assert_same(found.workspace().history(), (5, 0))

    def test_any_lines_in_any_order(self):
        met = {}
        for seed, program in enumerate([*samples(), drops()] * 5):
            dice = chance(230 + seed)
            limit = dice.choice([2, 3, 8])
            found, plain = desk(program, limit), PlainWorkspace(program, limit)
            wanted = []
            for _ in range(80):
                line = self.line(dice, program)
                wanted.append((line, plain.answer(line)))
                self.assert_same((line, found.say(line)), wanted[-1])
                key = wanted[-1][1] if wanted[-1][1].startswith(("error", "ok", "invalid")) else line.split(" ")[0]
                met[key] = met.get(key, 0) + 1
            self.assert_same((found.lines(), len(found)), (wanted, 80))
            self.assert_same(self.told(found.workspace())[0], dict(sorted(plain.logs.items())))
        for key in ("ok", "invalid", "names", "ask", "rank", "height", "error UnknownName", "error InvalidName",
                    "error DuplicateName", "error InvalidEvent", "error InvalidPlace", "error InvalidRange",
                    "error InvalidState", "error NothingLeft", "error Full"):
            self.assertGreater(met[key], 1, key)

    def line(self, dice, program):
        name = dice.choice(["a", "b", "c"] * 5 + ["one", "z"])
        number = dice.choice(["0", "1", "2", "3", "1", "2", "-1", "7", "00"])
        other = dice.choice(["0", "1", "2", "3", "4", "5"])
        sign = dice.choice(program.signs() * 5 + ["none"])
        mode = dice.choice(program.modes() * 5 + ["none"])
        values = "".join(f" {dice.randint(-9, 9)}" for _ in program.registers())
        line = dice.choice([
            f"new {name}", f"new {name}", f"put {name} {sign} {number}", f"put {name} {sign} {number}",
            f"put {name} {sign} {other}", f"cut {name} {number}", f"branch {name} {dice.choice('abcd')}", f"drop {name}",
            "undo", "redo", "names", f"ask {name} 0 {other} {mode}{values}", f"ask {name} {number} {other} {mode}{values}",
            f"rank {name} {number} {other}", f"rank {name} 0 {other}", f"height {name} {other}", f"height {name} {number}",
        ])
        if dice.random() < 0.05:
            words = line.split(" ")
            words[dice.randrange(len(words))] = dice.choice(["", "x", "5", "\n", "undo"])
            line = " ".join(words)
        return line


class Desks(Asked):
    def test_it_uses_this_very_workspace(self):
        workspace = Workspace(cash())
        one, other = Desk(workspace), Desk(workspace)
        self.assertIs(one.workspace(), workspace)
        self.assertIs(other.workspace(), workspace)
        self.same(one, [("new a", "ok"), ("put a pay 3", "ok")])
        self.same(other, [("names", "a"), ("ask a 0 1 on 5", "on 8"), ("put a reset 0", "ok"), ("rank a 0 2", "1")])
        self.same(one, [("ask a 0 2 on 5", "on 0"), ("height a 2", "1"), ("undo", "ok"), ("ask a 0 2 on 5", "error InvalidRange")])
        workspace.apply(("put", "a", ("pay", 7)), ("new", "b"))
        self.same(other, [("ask a 0 2 on 5", "on 15"), ("names", "a b"), ("undo", "ok"), ("rank a 0 2", "error InvalidRange")])
        workspace.redo()
        self.same(one, [("ask a 0 2 on 5", "on 15"), ("rank a 0 2", "2"), ("height a 2", "0")])
        workspace.undo()
        workspace.undo()
        self.same(one, [("height a 1", "error InvalidPlace"), ("height a 0", "2"), ("redo", "ok"), ("height a 1", "0")])
        self.assert_same((len(one), len(other)), (13, 8))
        workspace.limit = 1
        self.same(other, [("redo", "ok"), ("new c", "error Full")])

    def test_lines(self):
        found = desk()
        self.assert_same((found.lines(), len(found)), ([], 0))
        lines = ["new may", "hello", "", "put may pay 3", "drop june", "names", "new may\n", "names", "undo"]
        answers = ["ok", "invalid", "invalid", "ok", "error UnknownName", "may", "error InvalidName", "may", "ok"]
        for at, line in enumerate(lines):
            self.assert_same(found.say(line), answers[at])
            self.assert_same((found.lines(), len(found)), (list(zip(lines, answers))[:at + 1], at + 1))
        found.lines().clear()
        found.lines().append(None)
        self.assert_same((found.lines(), len(found)), (list(zip(lines, answers)), 9))

    def test_the_call(self):
        found = desk()
        self.assert_same([found("new may"), found(line="put may pay 3"), found.say(line="names"), found("hello")],
                         ["ok", "ok", "may", "invalid"])
        self.assert_same(found.lines(), [("new may", "ok"), ("put may pay 3", "ok"), ("names", "may"), ("hello", "invalid")])
        self.assert_same((len(found), found.workspace().history()), (4, (2, 0)))

    def test_by_name(self):
        workspace = Workspace(limit=2, program=Program.idle("a"))
        found = Desk(workspace=workspace)
        self.assert_same([found("new x"), found("put x a 5"), found("ask x 0 1 on"), found("rank x 0 1"), found("height x 1")],
                         ["ok", "ok", "on", "1", "0"])
