"""The examples of the document that use the modules there are."""

from twinbegun.compiling import row_of, table_of
from twinbegun.programs import Program
from twinbegun.tables import kernel, rank
from tests.checks import Checks, cash


class Examples(Checks):
    def test_run(self):
        found = cash().run(("on", (5,)), [("pay", 3), ("reset", 0), ("pay", 2)])
        self.assert_same(found, ("on", (2,)))

    def test_rows_and_tables(self):
        program = cash()
        found = [row_of(program, ("on", (5,))), table_of(program, ("pay", 3)), table_of(program, ("reset", 0))]
        self.assert_same(found, [(1, 5), ((1, 3), (0, 1)), ((1, 0), (0, 0))])

    def test_a_rule_that_leads_nowhere(self):
        self.assert_refused("InvalidRule", [0], Program, ["on"], ["cash"], ["pay"], [("on", "pay", "off", ())])

    def test_rank_and_kernel(self):
        found = [rank([(1, 2), (2, 4), (0, 1)]), len(kernel([(1, 2), (2, 4), (0, 1)]))]
        self.assert_same(found, [2, 1])
