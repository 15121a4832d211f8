"""Rules of counts (points 2 and 8)."""

import itertools
import unittest

from cellships.errors import NoRule
from cellships.rules import comes, is_quiet, rule
from tests.helper import KINDS, ODD_THINGS, Case, rows_of_counts


class RuleTest(Case):

    def test_counts_in_any_order(self):
        for kind in KINDS:
            for order in itertools.permutations((0, 1, 4)):
                self.tells((kind, (0, 1, 4), ()), rule, kind, list(order), [])
                self.tells((kind, (), (0, 1, 4)), rule, kind, (), order)
                self.tells((kind, (0, 1, 4), (2, 3)), rule, kind, order, [3, 2])
                self.tells((kind, (2, 3), (0, 1, 4)), rule, kind, (3, 2), list(order))

    def test_none_and_all_counts(self):
        for kind in KINDS:
            everything = list(range(kind + 1))
            self.tells((kind, (), ()), rule, kind, [], [])
            self.tells((kind, (), ()), rule, kind, (), ())
            self.tells((kind, tuple(everything), ()), rule, kind, everything, ())
            self.tells((kind, (), tuple(everything)), rule, kind, [], tuple(everything[::-1]))
            self.tells((kind, tuple(everything), tuple(everything)), rule, kind, everything[::-1], everything)

    def test_all_rules_of_four(self):
        for born in rows_of_counts(0, 4):
            for stay in rows_of_counts(0, 4):
                self.tells((4, born, stay), rule, 4, list(born)[::-1], stay)

    def test_a_rule_made_of_a_rule(self):
        for told in ((8, (3,), (2, 3)), (6, (2,), (3, 4)), (4, (0,), ())):
            self.tells(told, rule, *told)

    def test_lists_changed_afterwards_change_nothing(self):
        born, stay = [3], [2, 3]
        told = rule(8, born, stay)
        born.append(0)
        stay.clear()
        self.assertEqual(told, (8, (3,), (2, 3)))

    def test_another_kind(self):
        for odd in ODD_THINGS + ([4], [], (4,), (), [8], 0, 1, 2, 3, 5, 7, 9, -4, -8, 44, 10 ** 59, "8", "kind"):
            self.refuses(NoRule, rule, odd, [], [])
            self.refuses(NoRule, rule, odd, (3,), (2, 3))

    def test_odd_rows_of_counts(self):
        for kind in KINDS:
            for odd in ODD_THINGS + (0, 3, "", "0", "3", " ", "23", b"\x02\x03", {2: 3}, {0: True}, -1):
                self.refuses(NoRule, rule, kind, odd, [])
                self.refuses(NoRule, rule, kind, [], odd)
                self.refuses(NoRule, rule, kind, odd, odd)

    def test_odd_counts(self):
        for kind in KINDS:
            for odd in ODD_THINGS + ([], [3], (), (3,), -1, kind + 1, -10 ** 59, 10 ** 59, "3", [[]]):
                for row in ([odd], (odd,), [2, odd], [odd, 3], (0, odd, 4), [1, 2, 3, odd]):
                    self.refuses(NoRule, rule, kind, row, [])
                    self.refuses(NoRule, rule, kind, (), row)
                    self.refuses(NoRule, rule, kind, [1], row)

    def test_bounds_hang_on_the_kind(self):
        for kind in KINDS:
            for count in range(-2, 11):
                for born, stay in (([count], ()), ((), (count,))):
                    if 0 <= count <= kind:
                        self.tells((kind, tuple(born), stay), rule, kind, born, stay)
                    else:
                        self.refuses(NoRule, rule, kind, born, stay)

    def test_a_count_twice(self):
        for kind in KINDS:
            for row in ([0, 0], (3, 3), [1, 2, 1], (4, 4, 0), [2] * 3, [0, 1, 2, 3, 4, 0], [1] * 2000):
                self.refuses(NoRule, rule, kind, row, [])
                self.refuses(NoRule, rule, kind, [], row)
        self.tells((8, (3,), (3,)), rule, 8, [3], [3])

    def test_truths_are_no_counts(self):
        for kind in KINDS:
            for row in ([True], [False], (True, 2), [0, True], [1, True], [0, False], (False, 1)):
                self.refuses(NoRule, rule, kind, row, [])
                self.refuses(NoRule, rule, kind, [], row)


class QuietTest(Case):

    def test_all_rules_of_four(self):
        for born in rows_of_counts(0, 4):
            for stay in rows_of_counts(0, 4):
                self.tells(0 not in born, is_quiet, (4, born, stay))

    def test_other_kinds(self):
        self.tells(True, is_quiet, (8, (3,), (2, 3)))
        self.tells(True, is_quiet, (6, (), (0, 1)))
        self.tells(False, is_quiet, (8, (0, 3), ()))
        self.tells(False, is_quiet, (6, (0,), (0,)))
        self.tells(True, is_quiet, (8, (1, 2, 3, 4, 5, 6, 7, 8), (0,)))


class ComesTest(Case):

    def test_all_rules_of_four(self):
        for born in rows_of_counts(0, 4):
            for stay in rows_of_counts(0, 4):
                for count in range(5):
                    self.assertIs(comes((4, born, stay), False, count), count in born)
                    self.assertIs(comes((4, born, stay), True, count), count in stay)

    def test_each_count_of_each_kind(self):
        for kind in KINDS:
            for count in range(kind + 1):
                for other in range(kind + 1):
                    told = (kind, (count,), (kind - count,))
                    self.tells(other == count, comes, told, False, other)
                    self.tells(other == kind - count, comes, told, True, other)
                self.tells(False, comes, (kind, (), ()), False, count)
                self.tells(False, comes, (kind, (), ()), True, count)

    def test_life(self):
        life = rule(8, [3], [3, 2])
        self.assertEqual([comes(life, False, count) for count in range(9)], [count == 3 for count in range(9)])
        self.assertEqual([comes(life, True, count) for count in range(9)], [count in (2, 3) for count in range(9)])


if __name__ == "__main__":
    unittest.main()
