"""The examples of the document."""

from twinbegun.comparing import compare
from twinbegun.compiling import row_of, table_of
from twinbegun.desk import Desk
from twinbegun.edits import amount_for, outcome, plan
from twinbegun.forgetting import falls, meeting, needed_from
from twinbegun.logs import KeptLog
from twinbegun.papers import ask, follow
from twinbegun.probes import Probe
from twinbegun.programs import Program
from twinbegun.starts import starts
from twinbegun.stores import Store
from twinbegun.tables import kernel, rank
from twinbegun.texts import program_text, read_events
from twinbegun.ways import opened, way
from twinbegun.workspaces import Workspace
from tests.checks import Checks, cash


def paid():
    """The log of the examples."""
    return KeptLog(cash(), [("pay", 3), ("reset", 0), ("pay", 2)])


class Examples(Checks):
    def test_run(self):
        found = cash().run(("on", (5,)), [("pay", 3), ("reset", 0), ("pay", 2)])
        self.assert_same(found, ("on", (2,)))

    def test_rows_and_tables(self):
        program = cash()
        found = [row_of(program, ("on", (5,))), table_of(program, ("pay", 3)), table_of(program, ("reset", 0))]
        self.assert_same(found, [(1, 5), ((1, 3), (0, 1)), ((1, 0), (0, 0))])

    def test_a_rule_that_leads_nowhere(self):
        self.assert_refused("InvalidRule", [0], Program, ["on"], ["cash"], ["pay"], [("on", "pay", "off", ())])

    def test_rank_and_kernel(self):
        found = [rank([(1, 2), (2, 4), (0, 1)]), len(kernel([(1, 2), (2, 4), (0, 1)]))]
        self.assert_same(found, [2, 1])

    def test_heights_cuts_and_kept_tables(self):
        log = paid()
        found = [[log.height(place) for place in (0, 1, 2, 3)], log.cuts(1), log.kept(3, 1), log.kept(3, 2)]
        self.assert_same(found, [[2, 0, 1, 0], [0, 2], (2, ((1, 2), (0, 1))), (0, ((1, 2), (0, 0)))])

    def test_ways(self):
        log = paid()
        found = [way(log, 1, 3), opened(way(log, 1, 3)), way(log, 0, 3)]
        self.assert_same(found, [[("step", 2, 0), ("step", 3, 1)], 2, [("step", 2, 2), ("step", 3, 1)]])

    def test_papers(self):
        log = paid()
        found = [ask(log, 1, 3, ("on", (9,))), follow(log, 0, 2, (2, 7)).end, follow(log, 0, 2, (2, 7)).holds(log)]
        self.assert_same(found, [("on", (2,)), (2, 0), True])

    def test_forgetting(self):
        log = paid()
        found = [falls(log, 0), meeting(log, 0, ("on", (1,)), ("on", (7,))), needed_from(log, 3)]
        self.assert_same(found, [[(2, 1)], 2, 1])

    def test_starts(self):
        log = paid()
        found = starts(log, 2, 3, ("on", (6,)), "on")
        free = len(starts(log, 0, 3, ("on", (2,)), "on"))
        told = [found.has((4,)), found.has((5,)), len(found), free, starts(log, 0, 3, ("on", (6,)), "on")]
        self.assert_same(told, [True, False, 0, 1, None])

    def test_edits(self):
        log = paid()
        edits = [("strike", 1)]
        state = ("on", (5,))
        found = [plan(log, 0, 3, edits), outcome(log, 0, 3, state, edits), amount_for(log, 0, 3, state, 2, "cash", 7),
                 amount_for(log, 0, 3, state, 0, "cash", 2)]
        self.assert_same(found, [[("run", 0, 1), ("run", 2, 3)], ("on", (10,)), ("one", 7), ("every",)])

    def test_comparing(self):
        program = cash()
        other = Program(["on"], ["cash"], ["pay", "reset"], program.rules()[:1])
        one = Probe(program, ("on", (0,)), [("on", (("cash", 1),))])
        found = compare(one, Probe(other, ("on", (0,)), one.look()))
        self.assert_same([found.told(), len(found.events()), compare(one, one).told()], ["apart", 2, "alike"])

    def test_stores(self):
        store = Store(Program.idle("a"), size=2)
        store.put(("a", 1), ("a", 2), ("a", 3))
        before = store.pending()
        store.crash(0, 2)
        self.assert_same([before, store.events(), store.pages()], [
            [(0, (("a", 1),)), (0, (("a", 1), ("a", 2))), (1, (("a", 3),))], [("a", 1)], [(("a", 1),)]])

    def test_texts(self):
        wanted = "modes on\nregisters cash\nsigns pay reset\n"
        wanted += "rule on pay on cash = 1*cash + 1*amount\nrule on reset on cash = 0\n"
        self.assert_same(program_text(cash()), wanted)

    def test_a_text_with_a_wrong_line(self):
        self.assert_refused("InvalidText", [1], read_events, "pay 3\nreset 00\n")

    def test_desks(self):
        desk = Desk(Workspace(cash()))
        lines = ["new may", "put may pay 3", "put may reset 0", "ask may 0 1 on 5", "rank may 0 2", "height may 2", "undo",
                 "ask may 0 2 on 5", "ask may 0 1 on"]
        wanted = ["ok", "ok", "ok", "on 8", "1", "1", "ok", "error InvalidRange", "invalid"]
        self.assert_same([desk.say(line) for line in lines], wanted)
