"""Promises 12 to 15: products, rank, solve and kernel."""

import copy

from twinbegun.tables import identity, kernel, rank, row_times, solutions, solve, table_times
from tests.checks import Checks, chance
from tests.plain import plain_rank


def summed(rows, factors, width):
    """The sum of the rows, each times its factor."""
    return tuple(sum(factor * row[at] for factor, row in zip(factors, rows)) for at in range(width))


def some_rows(dice, count, width):
    """Random rows, some of which depend on others."""
    size = dice.choice([1, 1, 2, 9, 10 ** 20])
    rows = []
    for _ in range(count):
        if rows and dice.random() < 0.4:
            factors = [dice.randint(-3, 3) for _ in rows]
            rows.append(summed(rows, factors, width))
        else:
            rows.append(tuple(dice.choice([0, dice.randint(-size, size)]) for _ in range(width)))
    dice.shuffle(rows)
    return rows


def some_lists(seed, many):
    """Random lists of rows, with the width of each."""
    dice = chance(seed)
    for _ in range(many):
        width = dice.randint(1, 8)
        yield some_rows(dice, dice.randint(0, 8), width), width


class Products(Checks):
    def test_by_hand(self):
        self.assert_same(row_times((1, 5), ((1, 3), (0, 1))), (1, 8))
        self.assert_same(row_times((2, -1), ((1, 2), (3, 4))), (-1, 0))
        self.assert_same(row_times((7,), ((-3,),)), (-21,))
        self.assert_same(table_times(((1, 2), (3, 4)), ((0, 1), (1, 0))), ((2, 1), (4, 3)))
        self.assert_same(table_times(((0, 1), (1, 0)), ((1, 2), (3, 4))), ((3, 4), (1, 2)))

    def test_by_the_definition(self):
        dice = chance(21)
        for _ in range(100):
            width = dice.randint(1, 8)
            size = dice.choice([2, 10 ** 30])
            one, other = [
                tuple(tuple(dice.randint(-size, size) for _ in range(width)) for _ in range(width)) for _ in range(2)
            ]
            for row in one:
                wanted = tuple(sum(row[i] * other[i][j] for i in range(width)) for j in range(width))
                self.assert_same(row_times(row, other), wanted)
            self.assert_same(table_times(one, other), tuple(row_times(row, other) for row in one))

    def test_identity(self):
        self.assert_same(identity(1), ((1,),))
        self.assert_same(identity(3), ((1, 0, 0), (0, 1, 0), (0, 0, 1)))
        for width in range(1, 9):
            row = tuple(range(3, 3 + width))
            table = tuple(tuple(i * j - 5 for j in range(width)) for i in range(width))
            self.assert_same(row_times(row, identity(width)), row)
            self.assert_same(table_times(table, identity(width)), table)
            self.assert_same(table_times(identity(width), table), table)

    def test_by_name(self):
        self.assert_same(identity(width=2), ((1, 0), (0, 1)))
        self.assert_same(row_times(table=((1, 2), (3, 4)), row=(1, 0)), (1, 2))
        self.assert_same(table_times(other=((0, 1), (1, 0)), one=((1, 2), (3, 4))), ((2, 1), (4, 3)))


class Ranks(Checks):
    def test_by_hand(self):
        cases = [
            ([], 0), ((), 0), ([(0,)], 0), ([(0, 0)], 0), ([(0, 0), (0, 0)], 0), ([(5,)], 1), ([(0, 1)], 1),
            ([(1, 2), (2, 4), (0, 1)], 2), ([(2, 4), (3, 6)], 1), ([(2, 4), (3, 7)], 2), ([(0, 0), (1, 1)], 1),
            ([(1, 2, 3), (4, 5, 6), (7, 8, 9)], 2), ([(0, 1, 0), (1, 0, 0), (0, 0, 1)], 3),
            ([(1, 0), (0, 1), (1, 1)], 2),
            ([(0, 0, 2), (0, 3, 0), (5, 0, 0)], 3), ([(6, 4), (9, 6), (-3, -2)], 1), ([(1,), (2,), (3,)], 1),
        ]
        for rows, wanted in cases:
            self.assert_same(rank(rows), wanted)
            self.assert_same(rank(tuple(rows)), wanted)
        self.assert_same(rank(rows=[(1, 2)]), 1)

    def test_random_rows(self):
        for rows, _ in some_lists(22, 400):
            self.assert_same(rank(rows), plain_rank(rows))

    def test_full_and_identity(self):
        for width in range(1, 9):
            self.assert_same(rank(identity(width)), width)
            self.assert_same(rank(list(identity(width)) * 2), width)

    def test_rational_multiples(self):
        one = tuple(6 * number for number in (3, -5, 7))
        for top, bottom in [(1, 2), (2, 3), (-5, 6), (7, 1), (0, 1)]:
            other = tuple(number * top // bottom for number in one)
            self.assert_same(rank([one, other]), 1)
            self.assert_same(rank([other, one, (0, 0, 1)]), 2)

    def test_numbers_of_any_size(self):
        big = 10 ** 599
        self.assert_same(rank([(big, big + 1), (big - 1, big)]), 2)
        self.assert_same(rank([(big, big + 1), (3 * big, 3 * big + 3)]), 1)
        self.assert_same(rank([(big, 1), (big * big, big)]), 1)
        self.assert_same(rank([(big, 1), (big * big, big + 1)]), 2)
        self.assert_same(rank([(2 ** 64, 0), (0, 2 ** 31 - 1), (2 ** 61 - 1, 10 ** 9 + 7)]), 2)
        self.assert_same(rank([(big, 1, 0), (0, big, 1), (1, 0, big)]), 3)

    def test_primes_do_not_count_as_zeros(self):
        for prime in (2, 3, 101, 65537, 10 ** 9 + 7, 998244353, 2 ** 31 - 1, 2 ** 61 - 1, 2 ** 127 - 1):
            self.assert_same(rank([(prime,)]), 1)
            self.assert_same(rank([(1, 1), (1, 1 + prime)]), 2)

    def test_nothing_is_changed(self):
        for rows, width in some_lists(23, 30):
            before = copy.deepcopy(rows)
            rank(rows)
            kernel(rows)
            solve(rows, (1,) * width)
            self.assert_same(rows, before)


class Solutions(Checks):
    def check(self, rows, row):
        found = solve(rows, row)
        depends = plain_rank(list(rows) + [row]) == plain_rank(rows)
        if not depends:
            self.assertIsNone(found, (rows, row))
            return
        self.assertIs(type(found), tuple)
        numerators, denominator = found
        self.assertIs(type(numerators), tuple)
        self.assertEqual(len(numerators), len(rows))
        for number in (*numerators, denominator):
            self.assertIs(type(number), int)
        self.assertGreaterEqual(denominator, 1)
        self.assertEqual(summed(rows, numerators, len(row)), tuple(denominator * number for number in row))

    def test_random_rows(self):
        dice = chance(24)
        for rows, width in some_lists(25, 400):
            factors = [dice.choice([0, 1, -1, 2, 5]) for _ in rows]
            self.check(rows, summed(rows, factors, width))
            self.check(tuple(rows), tuple(dice.randint(-2, 2) for _ in range(width)))
            self.check(rows, (0,) * width)
            for row in rows:
                self.check(rows, row)

    def test_fractions(self):
        self.check([(2, 4)], (1, 2))
        self.check([(-2, -4)], (1, 2))
        self.check([(2, 4)], (-3, -6))
        self.check([(3, 0), (0, -7)], (1, 1))
        self.check([(6, 10, 15)], (-4, 0, 0))
        self.check([(0, 0), (4, 6), (0, 0)], (10, 15))

    def test_every_small_case(self):
        numbers = range(-2, 3)
        pairs = [(one, other) for one in numbers for other in numbers]
        for first in pairs:
            for second in pairs[::3]:
                for row in pairs[::2]:
                    self.check([first, second], row)

    def test_no_rows(self):
        for rows in ([], ()):
            for width in range(1, 9):
                self.assert_same(solve(rows, (0,) * width), ((), 1))
                self.assertIsNone(solve(rows, (0,) * (width - 1) + (1,)))
                self.assertIsNone(solve(rows, (-1,) + (0,) * (width - 1)))

    def test_none(self):
        self.assertIsNone(solve([(1, 0)], (0, 1)))
        self.assertIsNone(solve([(0, 0)], (0, 1)))
        self.assertIsNone(solve([(1, 1), (2, 2)], (1, 2)))

    def test_numbers_of_any_size(self):
        big = 10 ** 599
        self.check([(big, 1), (1, big)], (7, 11))
        self.check([(big, big)], (3, 3))
        self.check([(big, big)], (3, 4))

    def test_several_rows_at_once(self):
        dice = chance(28)
        for rows, width in some_lists(29, 100):
            wanted = [tuple(dice.randint(-2, 2) for _ in range(width)) for _ in range(4)] + rows
            self.assert_same(solutions(rows, wanted), [solve(rows, row) for row in wanted])
        self.assert_same(solutions([(1, 2)], []), [])

    def test_by_name(self):
        numerators, denominator = solve(row=(6, 8), rows=[(3, 4)])
        self.assertEqual(numerators[0], 2 * denominator)


class Kernels(Checks):
    def check(self, rows):
        found = kernel(rows)
        self.assertIs(type(found), list)
        self.assertEqual(len(found), len(rows) - plain_rank(rows))
        width = len(rows[0]) if rows else 0
        for factors in found:
            self.assertIs(type(factors), tuple)
            self.assertEqual(len(factors), len(rows))
            for factor in factors:
                self.assertIs(type(factor), int)
            self.assertEqual(summed(rows, factors, width), (0,) * width)
        self.assertEqual(plain_rank(found), len(found))
        self.assertEqual(rank(found), len(found))

    def test_random_rows(self):
        for rows, _ in some_lists(26, 400):
            self.check(rows)
            self.check(tuple(rows))

    def test_by_hand(self):
        self.check([])
        self.assert_same(kernel([]), [])
        self.assert_same(kernel(()), [])
        self.assert_same(kernel([(1, 0), (0, 1)]), [])
        self.check([(0,)])
        self.check([(0, 0), (0, 0)])
        self.check([(1, 2), (2, 4), (0, 1)])
        self.check([(2, 3), (5, 7), (11, 13), (17, 19)])
        self.check([(6,), (10,), (15,)])
        self.check([(1, 1)] * 12)
        self.check([(10 ** 599, 1), (10 ** 599, 1), (1, 10 ** 599), (3, 5)])

    def test_many_rows(self):
        dice = chance(27)
        for width in (1, 3, 5, 16):
            self.check(some_rows(dice, 40, width))

    def test_a_new_list_each_time(self):
        for rows in ([], [(1, 2), (2, 4), (0, 1)], [(0,), (0,)]):
            found = kernel(rows)
            before = list(found)
            found.append("more")
            again = kernel(rows=rows)
            self.assertIsNot(found, again)
            self.assert_same(again, before)
