"""Councils told by weights and a bar, and the trades of councils that no weights tell."""

from votesway.council import Council
from votesway.crowds import all_crowds, check_size
from votesway.errors import BadWeights


def check_weights(weights, bar):
    if bar < 0 or any([weight < 0 for weight in weights]):
        raise BadWeights("weights and the bar are whole numbers from nought on")


def reaches(crowd, weights, bar):
    return sum([weights[member] for member in crowd]) >= bar


def by_weights(weights, bar):
    many = len(weights)
    check_size(many)
    check_weights(weights, bar)
    return Council(many, [crowd for crowd in all_crowds(many) if reaches(crowd, weights, bar)])


def pairs_of(crowds):
    pairs = []
    for place, crowd in enumerate(crowds):
        pairs.extend([(crowd, other) for other in crowds[place:]])
    return pairs


def members_of(pair):
    return tuple(sorted(pair[0] + pair[1]))


def trade_of(council):
    # Least crowds are enough for the first two: a member who leaves one of these, which still carries, may leave one
    # of the last two as well, which still doesn't. Where there is no trade the answer is None.
    failing = {}
    for pair in pairs_of([crowd for crowd in all_crowds(council.many()) if not council.carries(crowd)]):
        failing[members_of(pair)] = pair
    for pair in pairs_of(council.least()):
        if members_of(pair) in failing:
            return pair + failing[members_of(pair)]
    return None


def draw(council, crowds):
    return sum([1 if council.carries(crowd) else -1 for crowd in crowds])


def drawn_weights(weights, council, wrong):
    drawn = []
    for member, weight in enumerate(weights):
        drawn.append(weight + draw(council, [crowd for crowd in wrong if member in crowd]))
    return drawn


def weights_of(council):
    # Crowds on the wrong side of the bar draw weights and bar their way until none is left. Such draws come to an end
    # wherever some weights and a bar tell the council, so only a council without a trade may be handed in.
    crowds = all_crowds(council.many())
    weights = [0 for member in range(council.many())]
    bar = 0
    wrong = crowds
    while wrong != []:
        weights = drawn_weights(weights, council, wrong)
        bar = bar - draw(council, wrong)
        wrong = [crowd for crowd in crowds if reaches(crowd, weights, bar) != council.carries(crowd)]
    return (weights, bar)


def weighed(council):
    trade = trade_of(council)
    if trade is not None:
        return ("trade", trade)
    found = weights_of(council)
    # With more members a crowd still carries, so a member whose weight is below nought is idle and may weigh nought;
    # where the bar is below nought the crowd of nobody carries, so everybody does.
    return ("weights", [max(weight, 0) for weight in found[0]], max(found[1], 0))
