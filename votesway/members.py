"""What single members of a council can do: vetoes, idle members, and members compared."""

from votesway.crowds import all_crowds, check_member, with_member


def in_each(member, crowds):
    return all([member in crowd for crowd in crowds])


def in_none(member, crowds):
    return all([member not in crowd for crowd in crowds])


def vetoes(council):
    # A crowd without the member carries just where a least crowd without the member lies in it.
    least = council.least()
    return [member for member in range(council.many()) if in_each(member, least)]


def idle(council):
    least = council.least()
    return [member for member in range(council.many()) if in_none(member, least)]


def crowds_without(many, one, other):
    return [crowd for crowd in all_crowds(many) if one not in crowd and other not in crowd]


def can_all(council, one, other):
    many = council.many()
    check_member(one, many)
    check_member(other, many)
    for crowd in crowds_without(many, one, other):
        if council.carries(with_member(crowd, other)) and not council.carries(with_member(crowd, one)):
            return False
    return True
