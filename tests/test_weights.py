import unittest
from itertools import product

import reference
from cases import CouncilCase
from votesway.council import Council
from votesway.errors import BadSize, BadWeights
from votesway.weights import by_weights, weighed

HUGE = 10 ** 29 + 7
GIANT = 10 ** 5000

WEIGHTS = ([0], [1], [HUGE], [0, 0], [0, 1], [1, 1], [2, 1], [0, 0, 0], [1, 1, 1], [2, 1, 1], [5, 0, 3],
           [HUGE, HUGE, HUGE], [HUGE, HUGE + 1, HUGE - 1], [0, 0, 0, 0], [3, 2, 1, 1], [1, 2, 3, 4], [7, 7, 0, 7],
           [0, HUGE, 1, 2 * HUGE], [0, 0, 0, 0, 0], [1, 1, 1, 1, 1], [5, 4, 3, 2, 2], [2, 0, 2, 0, 1],
           [HUGE, 2 * HUGE, 3 * HUGE, 4 * HUGE, 1], [GIANT, 1, 0, GIANT, 2])

# Every council of so many members that weights tell is told by weights up to these: the counts below say so.
MOST_WEIGHT = {1: 2, 2: 2, 3: 3, 4: 4, 5: 5}


def bars_for(weights):
    sums = {reference.weight_of(weights, crowd) for crowd in reference.crowds_of(len(weights))}
    near = {0, sum(weights) * 2 + 5} | {one + step for one in sums for step in (-1, 0, 1)}
    return sorted(bar for bar in near if bar >= 0)


def told_by_weights(many):
    """All councils that small weights tell, each as the set of crowds that carry."""
    found = set()
    for weights in product(range(MOST_WEIGHT[many] + 1), repeat=many):
        sums = [(reference.weight_of(weights, crowd), crowd) for crowd in reference.crowds_of(many)]
        for bar in {one for one, crowd in sums} | {sum(weights) + 1}:
            found.add(frozenset(crowd for one, crowd in sums if one >= bar))
    return found


class ByWeights(CouncilCase):
    def assert_carries(self, council, many, carrying):
        self.assertIs(type(council), Council)
        self.assertEqual(council.many(), many)
        for crowd in reference.crowds_of(many):
            self.assertIs(council.carries(crowd), crowd in carrying)
        self.assertEqual(council.least(), reference.least(many, carrying))

    def test_each_crowd_carries_just_where_it_weighs_the_bar_or_more(self):
        for weights in WEIGHTS:
            for bar in bars_for(weights):
                carrying = reference.carrying_by_weights(weights, bar)
                self.assert_carries(by_weights(weights, bar), len(weights), carrying)

    def test_some(self):
        self.assertEqual(by_weights([2, 1, 1], 3).least(), [(0, 1), (0, 2)])
        self.assertEqual(by_weights([1, 1, 1], 2).least(), [(0, 1), (0, 2), (1, 2)])
        self.assertEqual(by_weights([0, 4, 0, 3], 4).least(), [(1,)])

    def test_a_bar_of_nought_and_one_above_all(self):
        for weights in WEIGHTS:
            self.assertEqual(by_weights(weights, 0).least(), [()])
            self.assertEqual(by_weights(weights, sum(weights) + 1).least(), [])
            self.assertEqual(by_weights(weights, sum(weights) + GIANT).least(), [])

    def test_the_list_stays_and_is_not_kept(self):
        for weights in WEIGHTS:
            for bar in (0, 1, sum(weights), sum(weights) + 1):
                handed = list(weights)
                council = by_weights(handed, bar)
                self.assertEqual(handed, weights)
                carrying = reference.carrying_by_weights(weights, bar)
                handed[0] = handed[0] + 9
                self.assert_carries(council, len(weights), carrying)
                handed.clear()
                self.assert_carries(council, len(weights), carrying)
                handed.append(-1)
                self.assert_carries(council, len(weights), carrying)

    def test_by_the_names_of_the_interface(self):
        self.assertEqual(by_weights(weights=[1, 2], bar=2).least(), [(1,)])
        self.assertEqual(weighed(council=Council(1, []))[0], "weights")


class Refused(CouncilCase):
    def test_sizes(self):
        for count in (0, 6, 7, 10, 41):
            for bar in (0, 1, HUGE):
                self.assert_refused(BadSize, by_weights, [1] * count, bar)

    def test_bad_size_ahead_of_bad_weights(self):
        self.assert_refused(BadSize, by_weights, [], -1)
        self.assert_refused(BadSize, by_weights, [], -GIANT)
        for count in (6, 7, 12):
            self.assert_refused(BadSize, by_weights, [1] * count, -1)
            self.assert_refused(BadSize, by_weights, [-1] * count, -1)
            for place in range(count):
                weights = [1] * count
                weights[place] = -1
                self.assert_refused(BadSize, by_weights, weights, 1)

    def test_a_weight_below_nought_at_each_place(self):
        for many in range(1, 6):
            for place in range(many):
                for wrong in (-1, -2, -HUGE, -GIANT):
                    weights = [3] * many
                    weights[place] = wrong
                    for bar in (0, 1, HUGE, -1):
                        handed = list(weights)
                        self.assert_refused(BadWeights, by_weights, handed, bar)
                        self.assertEqual(handed, weights)

    def test_a_bar_below_nought(self):
        for weights in WEIGHTS:
            for bar in (-1, -2, -HUGE, -GIANT):
                self.assert_refused(BadWeights, by_weights, weights, bar)


class Weighed(CouncilCase):
    def assert_weighed(self, many, told, told_by_some):
        council = Council(many, told)
        answer = weighed(council)
        self.assertIs(type(answer), tuple)
        if told_by_some:
            self.assert_weights(answer, many, told)
        else:
            self.assert_trade(answer, many, told)
        self.assertEqual(council.least(), reference.least(many, told))

    def assert_weights(self, answer, many, told):
        self.assertEqual(len(answer), 3)
        word, weights, bar = answer
        self.assertEqual(word, "weights")
        self.assertIs(type(weights), list)
        self.assertEqual([type(number) for number in weights + [bar]], [int] * (many + 1))
        self.assertGreaterEqual(min(weights + [bar]), 0)
        self.assertEqual(reference.carrying_by_weights(weights, bar), reference.carrying_of(many, told))

    def assert_trade(self, answer, many, told):
        self.assertEqual(len(answer), 2)
        word, trade = answer
        self.assertEqual(word, "trade")
        self.assertIs(type(trade), tuple)
        self.assertEqual([type(crowd) for crowd in trade], [tuple] * 4)
        self.assertTrue(reference.is_trade(many, told, trade))

    def test_every_council(self):
        for many in range(1, 6):
            by_some = told_by_weights(many)
            councils = reference.all_councils(many)
            self.assertEqual(len(councils), (3, 6, 20, 168, 7581)[many - 1])
            self.assertEqual(len(by_some), (3, 6, 20, 150, 3287)[many - 1])
            for many, told in councils:
                with self.subTest(many=many, told=told):
                    self.assert_weighed(many, told, frozenset(told) in by_some)

    def test_no_trade_just_where_weights_tell_the_council(self):
        for many, told in reference.councils_to_try(50):
            with self.subTest(many=many, told=told):
                self.assertEqual(weighed(Council(many, told))[0] == "trade", reference.has_trade(many, told))

    def test_councils_told_by_weights(self):
        for weights in WEIGHTS:
            for bar in bars_for(weights):
                council = by_weights(weights, bar)
                self.assert_weighed(len(weights), council.least(), True)
                word, found, found_bar = weighed(council)
                self.assert_same(by_weights(found, found_bar), council)

    def test_a_trade(self):
        word, trade = weighed(Council(4, [(0, 1), (2, 3)]))
        self.assertEqual(word, "trade")
        self.assertEqual(set(trade[:2]), {(0, 1), (2, 3)})
        self.assertIn(set(trade[2:]), ({(0, 2), (1, 3)}, {(0, 3), (1, 2)}))

    def test_the_list_is_the_askers_own(self):
        for told in ([], [()], [(0,)], [(0, 1), (0, 2)], [(1, 2, 3), (0, 2), (0, 1)]):
            council = Council(4, told)
            first = weighed(council)
            second = weighed(council)
            self.assertIsNot(first[1], second[1])
            first[1].clear()
            self.assert_weights(second, 4, told)
            self.assert_weights(weighed(council), 4, told)
            self.assert_tells(council, 4, told)


if __name__ == "__main__":
    unittest.main()
