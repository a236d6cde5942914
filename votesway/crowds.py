"""Crowds as tuples of rising members: checks, their order, and how they lie in one another."""

from votesway.errors import BadCrowd, BadSize, NoMember

MOST_MEMBERS = 5

# The words of the errors below name no value: a number with very many digits can't be turned into a text.


def check_size(many):
    if many < 1 or many > MOST_MEMBERS:
        raise BadSize("a council has 1 to 5 members")


def check_member(member, many):
    if member < 0 or member >= many:
        raise NoMember("the council has no such member")


def check_crowd(crowd, many):
    ahead = -1
    for member in crowd:
        if member <= ahead or member >= many:
            raise BadCrowd("a crowd is a tuple of members of the council by rising numbers")
        ahead = member


def place(crowd):
    return (len(crowd), crowd)


def in_order(crowds):
    return sorted(crowds, key=place)


def all_crowds(many):
    crowds = [()]
    for member in range(many):
        crowds = crowds + [crowd + (member,) for crowd in crowds]
    return in_order(crowds)


def with_member(crowd, member):
    return tuple(sorted(crowd + (member,)))


def lies_in(crowd, other):
    return all([member in other for member in crowd])


def one_lies_in(crowds, other):
    return any([lies_in(crowd, other) for crowd in crowds])


def least_of(crowds):
    # In order, whatever lies in a crowd stands ahead of it, so looking back at those that were kept is enough.
    least = []
    for crowd in in_order(crowds):
        if not one_lies_in(least, crowd):
            least.append(crowd)
    return least
