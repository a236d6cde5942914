"""Councils made of others: both, either, turned, and without a member."""

from votesway.council import Council
from votesway.crowds import all_crowds, check_member, check_size
from votesway.errors import Unlike


def check_alike(one, other):
    if one.many() != other.many():
        raise Unlike("the two councils have unlike numbers of members")


def both(one, other):
    check_alike(one, other)
    many = one.many()
    return Council(many, [crowd for crowd in all_crowds(many) if one.carries(crowd) and other.carries(crowd)])


def either(one, other):
    check_alike(one, other)
    return Council(one.many(), one.least() + other.least())


def all_but(crowd, many):
    return tuple([member for member in range(many) if member not in crowd])


def turned(council):
    many = council.many()
    return Council(many, [crowd for crowd in all_crowds(many) if not council.carries(all_but(crowd, many))])


def as_numbered_before(crowd, member, carried):
    ahead = tuple([one for one in crowd if one < member])
    behind = tuple([one + 1 for one in crowd if one >= member])
    return ahead + ((member,) if carried else ()) + behind


def without(council, member, carried):
    check_member(member, council.many())
    rest = council.many() - 1
    check_size(rest)
    crowds = all_crowds(rest)
    return Council(rest, [crowd for crowd in crowds if council.carries(as_numbered_before(crowd, member, carried))])
