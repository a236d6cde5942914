"""What holds over the whole program, for councils that were told and for councils that were made."""

import unittest

import reference
from cases import CouncilCase
from votesway.council import Council
from votesway.errors import BadCrowd, NoMember, Unlike
from votesway.making import both, either, turned, without
from votesway.members import can_all, idle, vetoes
from votesway.notes import read, shown
from votesway.powers import powers, swings
from votesway.weights import by_weights, weighed


def larger_with_a_member(many, told, member, carried):
    """A council of one member more that is the told one once the member has left."""
    moved = [tuple(one + (one >= member) for one in crowd) for crowd in told]
    return Council(many + 1, [tuple(sorted(crowd + (member,))) for crowd in moved] if carried else moved)


def ways_to_make(many, told):
    council = Council(many, told)
    made = [council, both(council, Council(many, [()])), either(Council(many, []), council),
            turned(turned(council)), read(shown(council)), both(council, council), either(council, council)]
    if many < 5:
        for carried in (True, False):
            for member in (0, many):
                made.append(without(larger_with_a_member(many, told, member, carried), member, carried))
    answer = weighed(council)
    if answer[0] == "weights":
        made.append(by_weights(answer[1], answer[2]))
    return made


def lists_told(council):
    answer = weighed(council)
    told = [council.least(), vetoes(council), idle(council), swings(council), powers(council)]
    return told + ([answer[1]] if answer[0] == "weights" else [])


def made_councils():
    for many, told in list(reference.councils_to_try(400))[::3]:
        for council in ways_to_make(many, told):
            yield many, told, council


class MadeCouncils(CouncilCase):
    def assert_answers(self, council, many, told):
        self.assert_tells(council, many, told)
        self.assertEqual(vetoes(council), reference.vetoes(many, told))
        self.assertEqual(idle(council), reference.idle(many, told))
        self.assertEqual(swings(council), reference.swings(many, told))
        self.assertEqual(powers(council), reference.powers(many, told))
        self.assertEqual(shown(council), reference.note(many, told))
        self.assertEqual(weighed(council)[0] == "trade", reference.has_trade(many, told))
        for one in range(many):
            for other in range(many):
                self.assertIs(can_all(council, one, other), reference.can_all(many, told, one, other))

    def test_they_answer_all_that_a_told_one_does(self):
        for many, told, council in made_councils():
            with self.subTest(many=many, told=told):
                self.assertIs(type(council), Council)
                self.assert_answers(council, many, told)

    def test_they_refuse_what_they_must(self):
        for many, told, council in made_councils():
            for crowd in reference.wrong_crowds(many):
                self.assert_refused(BadCrowd, council.carries, crowd)
            for member in (-1, many):
                self.assert_refused(NoMember, can_all, council, member, 0)
                self.assert_refused(NoMember, can_all, council, 0, member)
                self.assert_refused(NoMember, without, council, member, True)
            unlike = Council(many % 5 + 1, [])
            self.assert_refused(Unlike, both, council, unlike)
            self.assert_refused(Unlike, either, unlike, council)

    def test_every_list_is_the_askers_own(self):
        for many, told in reference.councils_to_try(1500):
            lists = [one for council in ways_to_make(many, told) for one in lists_told(council) + lists_told(council)]
            self.assertEqual(len({id(one) for one in lists}), len(lists))

    def test_changing_what_was_told_changes_nothing(self):
        for many, told in reference.councils_to_try(1500):
            for council in ways_to_make(many, told):
                before = lists_told(council)
                for one in lists_told(council):
                    one.append((0,))
                    one.reverse()
                self.assertEqual(lists_told(council), before)
                self.assertEqual(council.least(), reference.least(many, told))

    def test_changing_what_a_made_council_tells_leaves_those_it_was_made_of(self):
        one = Council(3, [(0, 1)])
        other = Council(3, [(2,), (0, 1)])
        for made in (both(one, one), either(one, one), either(one, other), turned(one), without(one, 2, False)):
            made.least().clear()
            made.least().append((1,))
            self.assert_tells(one, 3, [(0, 1)])
            self.assert_tells(other, 3, [(2,), (0, 1)])


if __name__ == "__main__":
    unittest.main()
