"""What the tiles that are left in a rack count, and which leaves of a rack there are."""


class Leaves:
    def __init__(self, singles, doubles):
        self.singles = dict(singles)
        self.doubles = dict(doubles)

    def counts(self, left):
        singles = [self.singles.get(tile, 0) for tile in left]
        doubles = [self.doubles.get(tile, 0) * (left.count(tile) - 1) for tile in sorted(set(left))]
        return sum(singles) + sum(doubles)

    def of(self, rack, many):
        # The tiles are gone through sorted, so that each text that grows by them is sorted too.
        texts = [""]
        for tile in sorted(rack):
            texts = texts + [text + tile for text in texts if len(text) < many]
        return tuple(sorted(set([text for text in texts if len(text) == many])))

    def best_of(self, rack, many):
        # Of several even ones max tells the first.
        return max(self.of(rack, many), key=self.counts)
