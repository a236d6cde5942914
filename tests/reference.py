"""Councils and crowds told straight from the document's words, to hold the program against."""

from fractions import Fraction
from itertools import chain, combinations, permutations, product


def crowds_of(many):
    """All crowds in the order of [1]: combinations come by length and, within it, as tuples do."""
    return list(chain.from_iterable(combinations(range(many), size) for size in range(many + 1)))


def carries(told, crowd):
    return any(set(one) <= set(crowd) for one in told)


def least(many, told):
    carrying = [crowd for crowd in crowds_of(many) if carries(told, crowd)]
    return [crowd for crowd in carrying if not any(set(other) < set(crowd) for other in carrying)]


def vetoes(many, told):
    return [member for member in range(many)
            if not any(carries(told, crowd) for crowd in crowds_of(many) if member not in crowd)]


def idle(many, told):
    return [member for member in range(many) if not any(member in crowd for crowd in least(many, told))]


def can_all(many, told, one, other):
    return all(carries(told, crowd + (one,)) for crowd in crowds_of(many)
               if one not in crowd and other not in crowd and carries(told, crowd + (other,)))


def carrying_of(many, told):
    return {crowd for crowd in crowds_of(many) if carries(told, crowd)}


def swings(many, told):
    carrying = carrying_of(many, told)
    return [sum(crowd not in carrying and tuple(sorted(crowd + (member,))) in carrying
                for crowd in crowds_of(many) if member not in crowd) for member in range(many)]


def swayer(carrying, order):
    for count, member in enumerate(order):
        if tuple(sorted(order[:count])) not in carrying and tuple(sorted(order[:count + 1])) in carrying:
            return member
    return None


def powers(many, told):
    """Counted over all orders one by one."""
    carrying = carrying_of(many, told)
    swayers = [swayer(carrying, order) for order in permutations(range(many))]
    shares = [Fraction(swayers.count(member), len(swayers)) for member in range(many)]
    return [(share.numerator, share.denominator) for share in shares]


def weight_of(weights, crowd):
    return sum(weights[member] for member in crowd)


def carrying_by_weights(weights, bar):
    return {crowd for crowd in crowds_of(len(weights)) if weight_of(weights, crowd) >= bar}


def is_trade(many, told, trade):
    carrying = carrying_of(many, told)
    if len(trade) != 4 or any(crowd not in crowds_of(many) for crowd in trade):
        return False
    if any((crowd in carrying) != (place < 2) for place, crowd in enumerate(trade)):
        return False
    return sorted(trade[0] + trade[1]) == sorted(trade[2] + trade[3])


def has_trade(many, told):
    carrying = carrying_of(many, told)
    gained = {tuple(sorted(one + other)) for one, other in product(carrying, repeat=2)}
    failing = [crowd for crowd in crowds_of(many) if crowd not in carrying]
    return any(tuple(sorted(one + other)) in gained for one, other in product(failing, repeat=2))


def note(many, told):
    crowds = [" " + ("+".join(map(str, crowd)) or "-") for crowd in least(many, told)]
    return f"{many}:" + ",".join(crowds)


def tables(many):
    """Every council as a tuple of the crowds that carry: those without the last member, then those with."""
    if many == 0:
        return [(), ((),)]
    smaller = tables(many - 1)
    last = many - 1
    return [one + tuple(crowd + (last,) for crowd in other)
            for one in smaller for other in smaller if set(one) <= set(other)]


def all_councils(many):
    """Every council of so many members once, told by all crowds that carry."""
    return [(many, list(table)) for table in tables(many)]


def councils_to_try(step):
    """Every council of 1 to 4 members, and every step-th one of 5."""
    for many in (1, 2, 3, 4):
        yield from all_councils(many)
    yield from all_councils(5)[::step]


def small_lists():
    """Pairs of a size and a list of crowds: every list without repeats of up to 3 members, then lists of two."""
    for many in (1, 2, 3):
        crowds = crowds_of(many)
        for kept in product((False, True), repeat=len(crowds)):
            yield many, [crowd for crowd, keep in zip(crowds, kept) if keep]
    for many in (4, 5):
        for one, other in product(crowds_of(many), repeat=2):
            yield many, [one, other]


def larger_lists():
    """Lists of several crowds of 4 and 5 members, picked by fixed steps through all crowds."""
    for many in (4, 5):
        crowds = crowds_of(many)
        for start in range(len(crowds)):
            for step in (1, 3, 5, 7, 11):
                for length in (3, 5, 8):
                    yield many, [crowds[(start + step * k * k) % len(crowds)] for k in range(length)]


def lists_to_try():
    return chain(small_lists(), larger_lists())


def wrong_crowds(many):
    """Crowds that [4] refuses in a council of so many members."""
    last = many - 1
    wrong = [(many,), (many + 1,), (-1,), (-many,), (10 ** 30,), (-10 ** 30,), (10 ** 5000,),
             (0, many), (-1, 0), (last, many), (0, 0), (last, last), tuple(range(many)) + (many,),
             (-1,) + tuple(range(many)), tuple(range(many)) + (last,), (0,) + tuple(range(many))]
    if many > 1:
        wrong += [(1, 0), (last, 0), tuple(reversed(range(many))), (0, 1, 1), (0, 1, 0)]
    if many > 2:
        wrong += [(0, 2, 1), (1, 0, 2), (0, 1, 2, 1), (1, 2, 2)]
    return wrong
