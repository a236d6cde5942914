import unittest
from itertools import product

import reference
from cases import CouncilCase
from votesway.council import Council
from votesway.errors import BadSize, NoMember, Unlike
from votesway.making import both, either, turned, without


def pairs_to_try():
    """Every pair of councils of up to 3 members, and many pairs of 4 and 5."""
    for many in (1, 2, 3):
        for one, other in product(reference.all_councils(many), repeat=2):
            yield many, one[1], other[1]
    for many, step in ((4, 5), (5, 211)):
        for one, other in product(reference.all_councils(many)[::step], repeat=2):
            yield many, one[1], other[1]


def all_but(crowd, many):
    return tuple(sorted(set(range(many)) - set(crowd)))


def numbered_before(crowd, member):
    return tuple(one + (one >= member) for one in crowd)


class MadeCase(CouncilCase):
    def assert_carrying(self, council, many, carrying):
        self.assertIs(type(council), Council)
        self.assert_tells(council, many, carrying)
        for crowd in reference.crowds_of(many):
            self.assertIs(council.carries(crowd), crowd in carrying)


class BothAndEither(MadeCase):
    def test_against_every_crowd(self):
        for many, one, other in pairs_to_try():
            with self.subTest(many=many, one=one, other=other):
                first = Council(many, one)
                second = Council(many, other)
                self.assert_carrying(both(first, second), many, set(one) & set(other))
                self.assert_carrying(either(first, second), many, set(one) | set(other))
                self.assertEqual(first.least(), reference.least(many, one))
                self.assertEqual(second.least(), reference.least(many, other))

    def test_some(self):
        one = Council(3, [(0,)])
        other = Council(3, [(1,), (0, 2)])
        self.assertEqual(both(one, other).least(), [(0, 1), (0, 2)])
        self.assertEqual(either(one, other).least(), [(0,), (1,)])

    def test_with_itself_and_with_nobody_and_everybody(self):
        for many, told in reference.councils_to_try(50):
            council = Council(many, told)
            nobody = Council(many, [])
            everybody = Council(many, [()])
            self.assert_same(both(council, council), council)
            self.assert_same(either(council, council), council)
            self.assert_same(both(council, everybody), council)
            self.assert_same(either(nobody, council), council)
            self.assert_same(both(nobody, council), nobody)
            self.assert_same(either(council, everybody), everybody)

    def test_unlike(self):
        for one, other in product(range(1, 6), repeat=2):
            for crowds, others in product(([], [()], [(0,)]), repeat=2):
                for made in (both, either):
                    if one != other:
                        self.assert_refused(Unlike, made, Council(one, crowds), Council(other, others))

    def test_by_the_names_of_the_interface(self):
        one = Council(2, [(0,)])
        other = Council(2, [(1,)])
        self.assertEqual(both(one=one, other=other).least(), [(0, 1)])
        self.assertEqual(either(one=one, other=other).least(), [(0,), (1,)])


class Turned(MadeCase):
    def test_against_every_crowd(self):
        for many, told in reference.councils_to_try(5):
            with self.subTest(many=many, told=told):
                council = Council(many, told)
                carrying = {crowd for crowd in reference.crowds_of(many) if all_but(crowd, many) not in told}
                self.assert_carrying(turned(council), many, carrying)
                self.assertEqual(council.least(), reference.least(many, told))

    def test_twice_the_same(self):
        for many, told in reference.councils_to_try(5):
            council = Council(many, told)
            self.assert_same(turned(turned(council)), council)

    def test_some(self):
        self.assertEqual(turned(Council(3, [])).least(), [()])
        self.assertEqual(turned(Council(3, [()])).least(), [])
        self.assertEqual(turned(Council(3, [(0, 1), (0, 2)])).least(), [(0,), (1, 2)])
        self.assertEqual(turned(Council(3, [(0, 1), (0, 2), (1, 2)])).least(), [(0, 1), (0, 2), (1, 2)])

    def test_by_the_names_of_the_interface(self):
        self.assertEqual(turned(council=Council(2, [(0, 1)])).least(), [(0,), (1,)])


class Without(MadeCase):
    def test_against_every_crowd(self):
        for many, told in reference.councils_to_try(11):
            for member in range(many if many > 1 else 0):
                with self.subTest(many=many, told=told, member=member):
                    council = Council(many, told)
                    pairs = [(crowd, numbered_before(crowd, member)) for crowd in reference.crowds_of(many - 1)]
                    against = {crowd for crowd, before in pairs if before in told}
                    for_it = {crowd for crowd, before in pairs if tuple(sorted(before + (member,))) in told}
                    self.assert_carrying(without(council, member, False), many - 1, against)
                    self.assert_carrying(without(council, member, True), many - 1, for_it)
                    self.assertEqual(council.least(), reference.least(many, told))

    def test_some(self):
        council = Council(4, [(0, 1), (1, 3), (2,)])
        self.assertEqual(without(council, 1, True).least(), [(0,), (1,), (2,)])
        self.assertEqual(without(council, 1, False).least(), [(1,)])
        self.assertEqual(without(council, 2, True).least(), [()])
        self.assertEqual(without(council, 2, False).least(), [(0, 1), (1, 2)])
        self.assertEqual(without(council, 3, False).least(), [(2,), (0, 1)])
        self.assertEqual(without(Council(2, [(0, 1)]), 0, True).least(), [(0,)])
        self.assertEqual(without(Council(2, [(0, 1)]), 0, False).least(), [])

    def test_members_who_are_not_there(self):
        for many in range(1, 6):
            for told in ([], [()], [(0,)]):
                council = Council(many, told)
                for member in (-1, -2, -many, many, many + 1, 10 ** 30, -10 ** 30, 10 ** 5000):
                    for carried in (True, False):
                        self.assert_refused(NoMember, without, council, member, carried)
                self.assert_tells(council, many, told)

    def test_the_last_member(self):
        for told in ([], [()], [(0,)]):
            council = Council(1, told)
            for carried in (True, False):
                self.assert_refused(BadSize, without, council, 0, carried)
            self.assert_tells(council, 1, told)
            smaller = without(without(Council(3, told), 2, True), 1, False)
            self.assert_refused(BadSize, without, smaller, 0, True)
            self.assert_refused(NoMember, without, smaller, 1, True)

    def test_by_the_names_of_the_interface(self):
        council = Council(2, [(0, 1)])
        self.assertEqual(without(council=council, member=1, carried=True).least(), [(0,)])


if __name__ == "__main__":
    unittest.main()
