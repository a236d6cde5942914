import unittest

import reference
from cases import CouncilCase
from votesway.council import Council
from votesway.errors import BadCrowd, BadSize

WRONG_SIZES = (0, -1, -5, -10 ** 30, 6, 7, 40, 10 ** 30, 10 ** 5000, -10 ** 5000)


class Carrying(CouncilCase):
    def test_told_by_none_nobody_carries(self):
        for many in range(1, 6):
            with self.subTest(many=many):
                council = Council(many, [])
                self.assertEqual(council.least(), [])
                for crowd in reference.crowds_of(many):
                    self.assertIs(council.carries(crowd), False)

    def test_told_by_the_crowd_of_nobody_everybody_carries(self):
        for many in range(1, 6):
            for crowds in ([()], [(), ()], [(0,), ()], [(), tuple(range(many))]):
                with self.subTest(many=many, crowds=crowds):
                    council = Council(many, crowds)
                    self.assertEqual(council.least(), [()])
                    for crowd in reference.crowds_of(many):
                        self.assertIs(council.carries(crowd), True)

    def test_one_member(self):
        council = Council(1, [(0,)])
        self.assertEqual(council.many(), 1)
        self.assertEqual(council.least(), [(0,)])
        self.assertIs(council.carries(()), False)
        self.assertIs(council.carries((0,)), True)

    def test_three_members(self):
        council = Council(3, [(0, 2), (0, 1)])
        carrying = [crowd for crowd in reference.crowds_of(3) if council.carries(crowd)]
        self.assertEqual(carrying, [(0, 1), (0, 2), (0, 1, 2)])
        self.assertEqual(council.least(), [(0, 1), (0, 2)])

    def test_a_crowd_lies_in_another_with_members_between(self):
        council = Council(5, [(0, 4)])
        self.assertIs(council.carries((0, 1, 2, 3, 4)), True)
        self.assertIs(council.carries((0, 2, 4)), True)
        self.assertIs(council.carries((0, 1, 2, 3)), False)
        self.assertIs(council.carries((1, 2, 3, 4)), False)

    def test_the_words_of_the_document(self):
        for many, told in reference.lists_to_try():
            with self.subTest(many=many, told=told):
                self.assert_tells(Council(many, told), many, told)

    def test_with_more_members_still_carries(self):
        for many, told in reference.larger_lists():
            council = Council(many, told)
            crowds = [crowd for crowd in reference.crowds_of(many) if council.carries(crowd)]
            for crowd in crowds:
                for member in range(many):
                    self.assertIs(council.carries(tuple(sorted(set(crowd + (member,))))), True)

    def test_by_the_names_of_the_interface(self):
        council = Council(many=2, crowds=[(1,)])
        self.assertIs(council.carries(crowd=(0, 1)), True)


class Least(CouncilCase):
    def test_in_the_order_of_crowds(self):
        council = Council(5, [(1, 2, 4), (2, 3), (0, 3, 4), (1, 3), (0, 2), (0, 1, 4)])
        self.assertEqual(council.least(), [(0, 2), (1, 3), (2, 3), (0, 1, 4), (0, 3, 4), (1, 2, 4)])

    def test_fewer_members_stand_first(self):
        self.assertEqual(Council(4, [(0, 1), (3,)]).least(), [(3,), (0, 1)])
        self.assertEqual(Council(5, [(0, 1, 2), (3, 4)]).least(), [(3, 4), (0, 1, 2)])

    def test_a_list_of_tuples(self):
        least = Council(4, [(1, 3), (0,)]).least()
        self.assertIs(type(least), list)
        self.assertEqual([type(crowd) for crowd in least], [tuple, tuple])
        self.assertIs(type(Council(4, []).least()), list)

    def test_a_crowd_twice(self):
        self.assertEqual(Council(3, [(1, 2), (0,), (1, 2), (0,)]).least(), [(0,), (1, 2)])

    def test_a_crowd_in_which_another_lies(self):
        self.assertEqual(Council(4, [(0, 1, 2, 3), (1, 3), (0, 1, 3), (2,), (1, 2)]).least(), [(2,), (1, 3)])

    def test_any_order_tells_the_same(self):
        for many, told in reference.larger_lists():
            council = Council(many, told)
            for turned in (told[::-1], told[2:] + told[:2], sorted(told), told + told):
                self.assertEqual(Council(many, turned).least(), council.least())

    def test_least_crowds_tell_the_same_council(self):
        for many, told in reference.larger_lists():
            least = Council(many, told).least()
            self.assert_tells(Council(many, least), many, told)

    def test_the_most_least_crowds(self):
        pairs = [(one, other) for one in range(5) for other in range(one + 1, 5)]
        self.assertEqual(Council(5, pairs[::-1]).least(), pairs)

    def test_long_lists(self):
        crowds = reference.crowds_of(5)[1:]
        self.assertEqual(Council(5, (crowds + crowds)[:40]).least(), [(0,), (1,), (2,), (3,), (4,)])
        self.assertEqual(Council(5, crowds + crowds).least(), [(0,), (1,), (2,), (3,), (4,)])


class NothingKept(CouncilCase):
    def test_the_list_handed_in_stays(self):
        for many, told in reference.larger_lists():
            handed = list(told)
            council = Council(many, handed)
            council.least()
            council.carries(())
            self.assertEqual(handed, told)

    def test_changing_the_list_handed_in_changes_nothing(self):
        for told in ([], [(0, 2), (0, 1)], [(0, 1), (0, 2)], [(1,)]):
            with self.subTest(told=told):
                handed = list(told)
                council = Council(3, handed)
                handed.append((2,))
                self.assert_tells(council, 3, told)
                handed.clear()
                self.assert_tells(council, 3, told)
                handed.append(())
                self.assert_tells(council, 3, told)

    def test_one_list_for_two_councils(self):
        handed = [(0,)]
        first = Council(2, handed)
        handed[0] = (1,)
        second = Council(2, handed)
        self.assert_tells(first, 2, [(0,)])
        self.assert_tells(second, 2, [(1,)])

    def test_changing_a_list_that_was_told_changes_nothing(self):
        for told in ([], [()], [(0, 2), (0, 1)]):
            with self.subTest(told=told):
                council = Council(3, told)
                first = council.least()
                second = council.least()
                self.assertIsNot(first, second)
                first.append((2,))
                self.assertEqual(second, reference.least(3, told))
                self.assert_tells(council, 3, told)
                first.clear()
                self.assert_tells(council, 3, told)

    def test_asking_changes_nothing(self):
        council = Council(4, [(0, 1), (2,)])
        for crowd in reference.crowds_of(4):
            council.carries(crowd)
            self.assertEqual(council.least(), [(2,), (0, 1)])
            self.assertEqual(council.many(), 4)


class Refusals(CouncilCase):
    def test_sizes_that_are_refused(self):
        for many in WRONG_SIZES:
            for crowds in ([], [()], [(0,)]):
                self.assert_refused(BadSize, Council, many, crowds)

    def test_bad_size_ahead_of_bad_crowd(self):
        for many in WRONG_SIZES:
            for crowd in ((-1,), (1, 0), (0, 0), (10 ** 30,), (5,), (6,)):
                self.assert_refused(BadSize, Council, many, [crowd])
                self.assert_refused(BadSize, Council, many, [(), crowd])

    def test_wrong_crowds_at_every_place(self):
        for many in range(1, 6):
            last = many - 1
            for crowd in reference.wrong_crowds(many):
                for crowds in ([crowd], [crowd, (0,), (last,)], [(0,), crowd, (last,)], [(0,), (last,), crowd],
                               [(), crowd], [crowd, ()], [crowd, crowd]):
                    self.assert_refused(BadCrowd, Council, many, crowds)

    def test_wrong_crowds_handed_to_carries(self):
        for many in range(1, 6):
            for told in ([], [()], [(0,)], [tuple(range(many))]):
                council = Council(many, told)
                for crowd in reference.wrong_crowds(many):
                    self.assert_refused(BadCrowd, council.carries, crowd)
                self.assert_tells(council, many, told)

    def test_a_list_that_is_refused_stays(self):
        handed = [(2,), (1, 0), (0,)]
        self.assert_refused(BadCrowd, Council, 3, handed)
        self.assertEqual(handed, [(2,), (1, 0), (0,)])

    def test_nothing_is_refused_where_all_is_well(self):
        for many in range(1, 6):
            crowds = reference.crowds_of(many)
            council = Council(many, crowds[::-1])
            for crowd in crowds:
                self.assertEqual(Council(many, [crowd]).least(), [crowd])
                self.assertIs(council.carries(crowd), True)


if __name__ == "__main__":
    unittest.main()
