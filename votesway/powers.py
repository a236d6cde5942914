"""How much hangs on each member of a council: swings and powers."""

from votesway.crowds import all_crowds, with_member


def is_swing(council, crowd, member):
    return not council.carries(crowd) and council.carries(with_member(crowd, member))


def swings_of(council, member):
    crowds = [crowd for crowd in all_crowds(council.many()) if member not in crowd]
    return [crowd for crowd in crowds if is_swing(council, crowd, member)]


def swings(council):
    return [len(swings_of(council, member)) for member in range(council.many())]


def orders_of(many):
    orders = 1
    for count in range(2, many + 1):
        orders = orders * count
    return orders


def common_divisor(one, other):
    while other > 0:
        rest = one % other
        one = other
        other = rest
    return one


def fraction(top, bottom):
    divisor = common_divisor(top, bottom)
    return (top // divisor, bottom // divisor)


def power_of(council, member):
    # The member sways an order just where those ahead are a swing; they and those behind may stand in any order.
    many = council.many()
    ahead = [len(crowd) for crowd in swings_of(council, member)]
    swayed = sum([orders_of(count) * orders_of(many - 1 - count) for count in ahead])
    return fraction(swayed, orders_of(many))


def powers(council):
    return [power_of(council, member) for member in range(council.many())]
