"""The examples of the document, as they stand there."""

from lanerules.errors import BadRule, BadWord, Empty, NoPreference
from lanerules.rules import (Rule, each_step, first_lane, is_history, is_row, is_rule, order_of,
                             polite_rule, ranks_rule, row_error, rule_error, run, turns_rule,
                             word_error)
from tests.samples import ErrorCase

Z = ((0, 1), (1, 0), (0, 1))
R = (0, 0, 1, 0, 1)


class TestExamples(ErrorCase):
    def test_6(self):
        self.assert_same(
            [is_rule(Z), rule_error(((0, 1), (1, 1), (0, 1))), rule_error(((0,),)),
             rule_error(((0,), (False,)))],
            [True, (1, 'preference'), (None, 'rule'), (1, 'preference')])

    def test_7(self):
        self.assert_same(
            [is_row(Z, (0, 0, 1, 0, 1)), row_error(Z, (0, 2)), row_error(Z, ()), row_error(Z, [0])],
            [True, (1, 'lane'), (None, 'row'), (None, 'row')])

    def test_8(self):
        self.assert_same(
            [ranks_rule(1, 0), polite_rule(0, 1), turns_rule(3)],
            [((1, 0), (1, 0), (1, 0)), ((0, 1), (1, 0), (0, 1)),
             ((0, 1, 2), (1, 2, 0), (2, 0, 1), (0, 1, 2))])
        self.assert_error(NoPreference(), ranks_rule, 1, 2)

    def test_9(self):
        self.assert_same(
            [first_lane(Z, None, 1, 0), first_lane(Z, 0, 0, 1, 0), first_lane(Z, 0, 0)], [0, 1, 0])
        self.assert_error(Empty(), first_lane, ((0,), (0,)), None)

    def test_10(self):
        self.assert_same(
            [word_error((0, 1), "aap"), word_error((0, 1), "app"), word_error((0, 1), "aaxa"),
             word_error((0, 1), "aapa")],
            [None, (2, 'passing'), (2, 'letter'), (3, 'arrival')])
        self.assert_same(
            [is_history((0, 1), "apap"), is_history((0, 1), "aap"), is_history((0, 1), None)],
            [True, False, False])

    def test_11(self):
        self.assert_same(
            [run(Z, R, "aaapp"), order_of(Z, R, "aaaaappppp"), order_of(Z, R, "apapapapap"),
             order_of(Z, R, "aapaappapp")],
            [((0, 2), (1,)), (0, 2, 1, 4, 3), (0, 1, 2, 3, 4), (0, 2, 1, 4, 3)])
        self.assert_error(BadWord((0, 'passing')), run, ((0,), (0,)), (0, 0), "p")

    def test_12(self):
        self.assert_same(
            list(each_step(((0, 1), (1, 0), (0, 1)), (0, 0, 1), "aaapp")),
            [('a', 0, (0,)), ('a', 1, (0, 1)), ('a', 2, (0, 1, 2)), ('p', 0, (1, 2)),
             ('p', 2, (1,))])

    def test_13(self):
        rule = Rule(((0, 1), (1, 0), (0, 1)))
        self.assert_same(
            [rule(0, (0, 1)), rule[0], (0, 1, 0) in rule, (None, 1, 0) in rule, rule.lanes,
             rule == Rule(rule.table)],
            [1, (1, 0), True, False, 2, True])
        self.assert_error(BadRule((0, 'preference')), Rule, ((0, 1), (0, 1)))
