"""Councils and crowds told straight from the document's words, to hold the program against."""

from itertools import chain, combinations, product


def crowds_of(many):
    """All crowds in the order of [1]: combinations come by length and, within it, as tuples do."""
    return list(chain.from_iterable(combinations(range(many), size) for size in range(many + 1)))


def carries(told, crowd):
    return any(set(one) <= set(crowd) for one in told)


def least(many, told):
    carrying = [crowd for crowd in crowds_of(many) if carries(told, crowd)]
    return [crowd for crowd in carrying if not any(set(other) < set(crowd) for other in carrying)]


def vetoes(many, told):
    return [member for member in range(many)
            if not any(carries(told, crowd) for crowd in crowds_of(many) if member not in crowd)]


def idle(many, told):
    return [member for member in range(many) if not any(member in crowd for crowd in least(many, told))]


def can_all(many, told, one, other):
    return all(carries(told, crowd + (one,)) for crowd in crowds_of(many)
               if one not in crowd and other not in crowd and carries(told, crowd + (other,)))


def small_lists():
    """Pairs of a size and a list of crowds: every list without repeats of up to 3 members, then lists of two."""
    for many in (1, 2, 3):
        crowds = crowds_of(many)
        for kept in product((False, True), repeat=len(crowds)):
            yield many, [crowd for crowd, keep in zip(crowds, kept) if keep]
    for many in (4, 5):
        for one, other in product(crowds_of(many), repeat=2):
            yield many, [one, other]


def larger_lists():
    """Lists of several crowds of 4 and 5 members, picked by fixed steps through all crowds."""
    for many in (4, 5):
        crowds = crowds_of(many)
        for start in range(len(crowds)):
            for step in (1, 3, 5, 7, 11):
                for length in (3, 5, 8):
                    yield many, [crowds[(start + step * k * k) % len(crowds)] for k in range(length)]


def lists_to_try():
    return chain(small_lists(), larger_lists())


def wrong_crowds(many):
    """Crowds that [4] refuses in a council of so many members."""
    last = many - 1
    wrong = [(many,), (many + 1,), (-1,), (-many,), (10 ** 30,), (-10 ** 30,), (10 ** 5000,),
             (0, many), (-1, 0), (last, many), (0, 0), (last, last), tuple(range(many)) + (many,),
             (-1,) + tuple(range(many)), tuple(range(many)) + (last,), (0,) + tuple(range(many))]
    if many > 1:
        wrong += [(1, 0), (last, 0), tuple(reversed(range(many))), (0, 1, 1), (0, 1, 0)]
    if many > 2:
        wrong += [(0, 2, 1), (1, 0, 2), (0, 1, 2, 1), (1, 2, 2)]
    return wrong
