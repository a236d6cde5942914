"""The council: how many members it has, and which crowds of them carry."""

from votesway.crowds import check_crowd, check_size, least_of, one_lies_in


class Council:
    def __init__(self, many, crowds):
        check_size(many)
        for crowd in crowds:
            check_crowd(crowd, many)
        self.size = many
        # The least crowds tell all that the crowds handed in do, so the list itself need not be kept.
        self.smallest = least_of(crowds)

    def many(self):
        return self.size

    def carries(self, crowd):
        check_crowd(crowd, self.size)
        return one_lies_in(self.smallest, crowd)

    def least(self):
        return list(self.smallest)
