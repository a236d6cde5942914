import unittest

import reference
from cases import CouncilCase
from votesway.council import Council
from votesway.errors import NoMember
from votesway.members import can_all, idle, vetoes


class Vetoes(unittest.TestCase):
    def test_where_nobody_carries_all_have_one(self):
        for many in range(1, 6):
            self.assertEqual(vetoes(Council(many, [])), list(range(many)))

    def test_where_everybody_carries_none_has_one(self):
        for many in range(1, 6):
            self.assertEqual(vetoes(Council(many, [()])), [])

    def test_where_all_are_needed(self):
        for many in range(1, 6):
            self.assertEqual(vetoes(Council(many, [tuple(range(many))])), list(range(many)))

    def test_some(self):
        self.assertEqual(vetoes(Council(3, [(0, 1), (0, 2)])), [0])
        self.assertEqual(vetoes(Council(3, [(0, 1), (0, 2), (1, 2)])), [])
        self.assertEqual(vetoes(Council(5, [(1, 3, 4), (0, 1, 4), (1, 2, 4)])), [1, 4])
        self.assertEqual(vetoes(Council(4, [(2,), (0, 1, 2, 3), (2, 3)])), [2])

    def test_the_words_of_the_document(self):
        for many, told in reference.lists_to_try():
            with self.subTest(many=many, told=told):
                self.assertEqual(vetoes(Council(many, told)), reference.vetoes(many, told))


class Idle(unittest.TestCase):
    def test_where_nobody_carries_all_are(self):
        for many in range(1, 6):
            self.assertEqual(idle(Council(many, [])), list(range(many)))

    def test_where_everybody_carries_all_are(self):
        for many in range(1, 6):
            self.assertEqual(idle(Council(many, [()])), list(range(many)))
            self.assertEqual(idle(Council(many, [tuple(range(many)), ()])), list(range(many)))

    def test_where_all_are_needed_none_is(self):
        for many in range(1, 6):
            self.assertEqual(idle(Council(many, [tuple(range(many))])), [])

    def test_some(self):
        self.assertEqual(idle(Council(3, [(0, 1), (0, 2)])), [])
        self.assertEqual(idle(Council(4, [(0, 2)])), [1, 3])
        self.assertEqual(idle(Council(5, [(3,), (1, 3), (2, 4)])), [0, 1])

    def test_the_words_of_the_document(self):
        for many, told in reference.lists_to_try():
            with self.subTest(many=many, told=told):
                self.assertEqual(idle(Council(many, told)), reference.idle(many, told))


class CanAll(unittest.TestCase):
    def test_each_alone(self):
        for many, told in reference.larger_lists():
            council = Council(many, told)
            for member in range(many):
                self.assertIs(can_all(council, member, member), True)

    def test_one_member(self):
        for told in ([], [()], [(0,)]):
            self.assertIs(can_all(Council(1, told), 0, 0), True)

    def test_where_nobody_or_everybody_carries(self):
        for told in ([], [()]):
            council = Council(4, told)
            for one in range(4):
                for other in range(4):
                    self.assertIs(can_all(council, one, other), True)

    def test_one_way_alone(self):
        council = Council(3, [(0, 1), (0, 2)])
        self.assertIs(can_all(council, 0, 1), True)
        self.assertIs(can_all(council, 1, 0), False)
        self.assertIs(can_all(council, 1, 2), True)
        self.assertIs(can_all(council, 2, 1), True)

    def test_neither_way(self):
        council = Council(4, [(0, 1), (2, 3)])
        self.assertIs(can_all(council, 0, 2), False)
        self.assertIs(can_all(council, 2, 0), False)
        self.assertIs(can_all(council, 0, 1), True)

    def test_only_crowds_without_the_two_count(self):
        self.assertIs(can_all(Council(2, [(0, 1)]), 0, 1), True)
        self.assertIs(can_all(Council(2, [(0, 1)]), 1, 0), True)

    def test_by_the_names_of_the_interface(self):
        council = Council(2, [(0,)])
        self.assertIs(can_all(council=council, one=0, other=1), True)
        self.assertIs(can_all(council=council, one=1, other=0), False)
        self.assertEqual(vetoes(council=council), [0])
        self.assertEqual(idle(council=council), [1])

    def test_the_words_of_the_document(self):
        for many, told in reference.lists_to_try():
            council = Council(many, told)
            for one in range(many):
                for other in range(many):
                    with self.subTest(many=many, told=told, one=one, other=other):
                        self.assertIs(can_all(council, one, other), reference.can_all(many, told, one, other))


class NoSuchMember(CouncilCase):
    def test_at_either_place_and_at_both(self):
        for many in range(1, 6):
            for told in ([], [()], [(0,)]):
                council = Council(many, told)
                for wrong in (many, many + 1, -1, -many, 10 ** 30, -10 ** 30, 10 ** 5000):
                    for member in range(many):
                        self.assert_refused(NoMember, can_all, council, wrong, member)
                        self.assert_refused(NoMember, can_all, council, member, wrong)
                    self.assert_refused(NoMember, can_all, council, wrong, wrong)
                    self.assert_refused(NoMember, can_all, council, wrong, -2)
                    self.assert_refused(NoMember, can_all, council, many, wrong)


class NothingKept(unittest.TestCase):
    def test_each_list_is_the_askers_own(self):
        for told in ([], [()], [(0, 2)], [(0, 1), (0, 2)]):
            council = Council(4, told)
            for asked, expected in ((vetoes, reference.vetoes(4, told)), (idle, reference.idle(4, told))):
                first = asked(council)
                self.assertIs(type(first), list)
                second = asked(council)
                self.assertIsNot(first, second)
                first.append(7)
                self.assertEqual(second, expected)
                self.assertEqual(asked(council), expected)
            self.assertIsNot(vetoes(council), idle(council))

    def test_the_council_handed_in_stays(self):
        for many, told in reference.larger_lists():
            council = Council(many, told)
            vetoes(council)
            idle(council)
            can_all(council, 0, many - 1)
            self.assertEqual(council.many(), many)
            self.assertEqual(council.least(), reference.least(many, told))


if __name__ == "__main__":
    unittest.main()
