"""The refusals of votesway, all under VoteError."""


class VoteError(ValueError):
    pass


class BadCrowd(VoteError):
    pass


class BadSize(VoteError):
    pass


class NoMember(VoteError):
    pass


class BadWeights(VoteError):
    pass


class Unlike(VoteError):
    pass


class BadNote(VoteError):
    pass
