import unittest
from fractions import Fraction
from math import gcd

import reference
from cases import CouncilCase
from votesway.council import Council
from votesway.powers import powers, swings


class Swings(CouncilCase):
    def test_where_nobody_or_everybody_carries(self):
        for many in range(1, 6):
            self.assertEqual(swings(Council(many, [])), [0] * many)
            self.assertEqual(swings(Council(many, [()])), [0] * many)

    def test_one_member(self):
        self.assertEqual(swings(Council(1, [(0,)])), [1])

    def test_some(self):
        self.assertEqual(swings(Council(3, [(0, 1), (0, 2)])), [3, 1, 1])
        self.assertEqual(swings(Council(3, [(0, 1), (0, 2), (1, 2)])), [2, 2, 2])
        self.assertEqual(swings(Council(4, [(2,)])), [0, 0, 8, 0])
        self.assertEqual(swings(Council(5, [(0, 1, 2, 3, 4)])), [1, 1, 1, 1, 1])

    def test_against_a_count_over_all_crowds(self):
        for many, told in reference.councils_to_try(5):
            with self.subTest(many=many, told=told):
                self.assertEqual(swings(Council(many, told)), reference.swings(many, told))


class Powers(CouncilCase):
    def test_where_nobody_or_everybody_carries(self):
        for many in range(1, 6):
            self.assertEqual(powers(Council(many, [])), [(0, 1)] * many)
            self.assertEqual(powers(Council(many, [()])), [(0, 1)] * many)

    def test_one_member(self):
        self.assertEqual(powers(Council(1, [(0,)])), [(1, 1)])

    def test_some(self):
        self.assertEqual(powers(Council(3, [(0, 1), (0, 2)])), [(2, 3), (1, 6), (1, 6)])
        self.assertEqual(powers(Council(3, [(0, 1), (0, 2), (1, 2)])), [(1, 3)] * 3)
        self.assertEqual(powers(Council(4, [(2,)])), [(0, 1), (0, 1), (1, 1), (0, 1)])
        self.assertEqual(powers(Council(2, [(0,), (1,)])), [(1, 2), (1, 2)])
        self.assertEqual(powers(Council(5, [(0, 1, 2, 3, 4)])), [(1, 5)] * 5)
        self.assertEqual(powers(Council(4, [(0, 1), (0, 2, 3)])), [(7, 12), (1, 4), (1, 12), (1, 12)])

    def test_against_a_count_over_all_orders(self):
        for many, told in reference.councils_to_try(5):
            with self.subTest(many=many, told=told):
                self.assertEqual(powers(Council(many, told)), reference.powers(many, told))

    def test_together_one_or_all_nought(self):
        for many, told in reference.lists_to_try():
            council = Council(many, told)
            shares = powers(council)
            if council.least() in ([], [()]):
                self.assertEqual(shares, [(0, 1)] * many)
            else:
                self.assertEqual(sum(Fraction(top, bottom) for top, bottom in shares), 1)

    def test_tuples_without_a_common_divisor(self):
        for many, told in reference.larger_lists():
            for share in powers(Council(many, told)):
                self.assertIs(type(share), tuple)
                self.assertEqual([type(number) for number in share], [int, int])
                self.assertGreaterEqual(share[0], 0)
                self.assertGreaterEqual(share[1], 1)
                self.assertEqual(gcd(*share), 1)


class NothingKept(CouncilCase):
    def test_each_list_is_the_askers_own(self):
        for told in ([], [()], [(0, 2)], [(0, 1), (0, 2)]):
            council = Council(4, told)
            for asked, expected in ((swings, reference.swings(4, told)), (powers, reference.powers(4, told))):
                first = asked(council)
                second = asked(council)
                self.assertIs(type(first), list)
                self.assertIsNot(first, second)
                first.clear()
                self.assertEqual(second, expected)
                self.assertEqual(asked(council), expected)
            self.assert_tells(council, 4, told)

    def test_by_the_names_of_the_interface(self):
        council = Council(2, [(0,)])
        self.assertEqual(swings(council=council), [2, 0])
        self.assertEqual(powers(council=council), [(1, 1), (0, 1)])


if __name__ == "__main__":
    unittest.main()
