"""[22] and [23]: all possible orders, one after another or as an object."""

from inspect import isgenerator
from itertools import islice, permutations, product

from lanerules.errors import Impossible, NoIndex, NoOrder, TooLarge
from lanerules.orders import Orders, each_possible, is_possible, possible_orders
from lanerules.rules import Rule, polite_rule, ranks_rule, turns_rule
from tests.listing import Draws, all_orders, by_order, small_cases
from tests.samples import K, ONE, R, Z, ErrorCase, any_values


def eight_cars():
    draws = Draws(11)
    return [(ONE, (0,) * 8), (Z, (0, 1) * 4), (K, (1, 1, 1, 1, 0, 0, 0, 0)), (K, (0, 1, 1, 0, 0, 1, 0, 1)),
            (turns_rule(6), (5, 4, 3, 2, 1, 0, 5, 4)), (ranks_rule(5, 4, 3, 2, 1, 0), (0, 1, 2, 3, 4, 5, 0, 1)),
            (draws.rule(6), draws.row(6, 8)), (draws.rule(3), draws.row(3, 8))]


class TestListing(ErrorCase):
    def test_against_the_listing(self):
        for rule, row in small_cases():
            expected = tuple(sorted(by_order(rule, row)))
            self.assert_same(possible_orders(rule, row), expected)
            self.assert_same(list(each_possible(rule, row)), list(expected))

    def test_eight_cars(self):
        for rule, row in eight_cars():
            expected = tuple(sorted(by_order(rule, row)))
            self.assert_same(possible_orders(rule, row), expected)

    def test_more_than_eight_cars(self):
        for cars in (9, 10, 40):
            for rule, row in ((ONE, (0,) * cars), (Z, (1,) * cars), (turns_rule(6), (5, 0) * (cars // 2) + (1,))):
                self.assert_error(TooLarge(8), possible_orders, rule, row)
                self.assert_error(TooLarge(8), Orders, rule, row)

    def test_one_car(self):
        for lanes in range(1, 7):
            for rule in (turns_rule(lanes), ranks_rule(*range(lanes))):
                self.assert_same(possible_orders(rule, (lanes - 1,)), ((0,),))

    def test_it_is_a_generator(self):
        self.assertTrue(isgenerator(each_possible(Z, R)))

    def test_nine_cars_are_yielded(self):
        row = (0, 1, 0, 1, 0, 1, 0, 1, 0)
        expected = sorted(by_order(K, row))
        self.assertEqual(list(each_possible(K, row)), expected)


class TestForty(ErrorCase):
    def test_one_lane(self):
        self.assertEqual(list(each_possible(ONE, (0,) * 40)), [tuple(range(40))])

    def test_the_first_ones_come_at_once(self):
        draws = Draws(12)
        rules = [turns_rule(6), polite_rule(5, 4, 3, 2, 1, 0), ranks_rule(5, 4, 3, 2, 1, 0), draws.rule(6)]
        for rule in rules:
            row = draws.row(6, 40)
            found = list(islice(each_possible(rule, row), 60))
            self.assertEqual(len(found), 60)
            self.assertEqual(found[0], tuple(range(40)))
            for one, other in zip(found, found[1:]):
                self.assertLess(one, other)
            for order in found[::6]:
                self.assertIs(is_possible(rule, row, order), True)

    def test_none_is_left_out_between(self):
        # All orders that differ in their last five cars only, in their own order.
        rule, row = ranks_rule(1, 0, 2), (0, 2) * 17 + (0, 1, 2, 0, 1, 2)
        found = list(islice(each_possible(rule, row), 4))
        kept = found[-1][:35]
        self.assertEqual(kept, tuple(range(35)))
        orders = [kept + rest for rest in permutations(range(35, 40))]
        expected = [order for order in orders if is_possible(rule, row, order)]
        self.assertEqual(found, expected[:4])

    def test_the_last_one_of_a_long_row(self):
        # The only car of lane 1 comes last and can pass before any of the others that still wait.
        row = (0,) * 39 + (1,)
        found = list(each_possible(ranks_rule(1, 0), row))
        expected = sorted((*range(at), 39, *range(at, 39)) for at in range(40))
        self.assertEqual(found, expected)


class TestWalks(ErrorCase):
    def test_a_walk_that_is_left_and_begun_anew(self):
        for order in each_possible(K, R):
            break
        self.assertEqual(order, (0, 1, 2, 3, 4))
        self.assertEqual(tuple(each_possible(K, R)), possible_orders(K, R))

    def test_two_walks_at_once(self):
        one, other = each_possible(K, R), each_possible(Z, R)
        seen = [next(one), next(other), next(one), next(other)]
        self.assertEqual(seen[::2] + list(one), list(possible_orders(K, R)))
        self.assertEqual(seen[1::2] + list(other), list(possible_orders(Z, R)))


class TestOrders(ErrorCase):
    def test_against_the_listing(self):
        for rule, row in small_cases()[::5] + eight_cars()[1:4]:
            expected = sorted(by_order(rule, row))
            orders = Orders(rule, row)
            self.assert_same(len(orders), len(expected))
            self.assert_same([orders[at] for at in range(len(expected))], expected)
            self.assert_same([orders.place_of(order) for order in expected], list(range(len(expected))))
            for order in all_orders(min(len(row), 5)):
                value = order + tuple(range(len(order), len(row)))
                self.assertIs(value in orders, value in expected)

    def test_indexes_that_are_none(self):
        for rule, row in ((ONE, (0,)), (Z, R), (K, (0, 1) * 4)):
            orders = Orders(rule, row)
            wrong = [-1, len(orders), len(orders) + 1, -len(orders), None, "0", True, False, (0,), [0], 10 ** 39]
            for value in wrong:
                error = self.assert_error(NoIndex(value), orders.__getitem__, value)
                self.assertIs(error.index, value)
            for value in any_values():
                if isinstance(value, bool) or value not in range(len(orders)):
                    self.assert_error(NoIndex(value), orders.__getitem__, value)
            with self.assertRaises(NoIndex):
                orders[len(orders)]
            with self.assertRaises(NoIndex):
                orders[-1]
            self.assertEqual(orders[0], tuple(range(len(row))))

    def test_values_that_are_not_in_it(self):
        orders = Orders(Z, R)
        wrong = [(0, 1), (0, 1, 2, 3), (0, True, 2, 3, 4), (False, 1, 2, 3, 4), [0, 1, 2, 3, 4], "01234",
                 (1, 0, 2, 3, 4), (0, 1, 3, 2, 4), None, 0, 1, orders, Rule(Z), ([0], 1, 2, 3, 4), ({},) * 5]
        for value in wrong + any_values():
            self.assertIs(value in orders, False)
        self.assertIs((0, 1, 2, 3, 4) in orders, True)

    def test_errors_of_place_of(self):
        orders = Orders(Z, R)
        for value in [(0, 1), (0, True, 2, 3, 4), [0, 1, 2, 3, 4], None, 0, *any_values()]:
            self.assert_error(NoOrder(), orders.place_of, value)
        self.assert_error(Impossible(), orders.place_of, (0, 1, 3, 2, 4))
        self.assert_error(Impossible(), orders.place_of, (1, 0, 2, 3, 4))
        self.assertEqual(orders.place_of((0, 2, 1, 4, 3)), 2)

    def test_a_loop_raises_type_error(self):
        orders = Orders(Z, R)
        with self.assertRaises(TypeError):
            for _ in orders:
                self.fail("orders were iterated over")
        for call in (iter, list, tuple, sorted):
            with self.assertRaises(TypeError):
                call(orders)

    def test_one_order_only(self):
        orders = Orders(ONE, (0,) * 8)
        self.assertEqual((len(orders), orders[0], orders.place_of(tuple(range(8)))), (1, tuple(range(8)), 0))

    def test_several_at_once(self):
        made = {(rule, row): Orders(rule, row) for rule, row in product((Z, K), (R, (0, 1, 0)))}
        for (rule, row), orders in made.items():
            self.assertEqual([orders[at] for at in range(len(orders))], list(possible_orders(rule, row)))
