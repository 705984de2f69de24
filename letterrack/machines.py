"""The turned beginnings of words, and least machines that let by sets of texts."""


def turned_beginnings(word):
    return tuple([turned_beginning(word, many) for many in range(1, len(word) + 1)])


def turned_beginning(word, many):
    return "".join(reversed(word[:many])) + "+" + word[many:]


def rests_by_sign(texts):
    # Rising texts give their first signs in order, and behind each sign rests that rise again.
    rests = {}
    for text in texts:
        if text != "":
            rests.setdefault(text[0], []).append(text[1:])
    return rests


def least_table(texts):
    # A state is known by the rising tuple of all texts that it lets by from there on. So no two
    # states let by the same texts, and from each an end is come to.
    states = [tuple(sorted(set(texts)))]
    numbers = {states[0]: 0}
    rows = []
    while len(rows) < len(states):
        state = states[len(rows)]
        pairs = []
        for sign, rests in rests_by_sign(state).items():
            onward = tuple(rests)
            if onward not in numbers:
                numbers[onward] = len(states)
                states.append(onward)
            pairs.append((sign, numbers[onward]))
        rows.append(("" in state, tuple(pairs)))
    return tuple(rows)


class Machine:
    def __init__(self, texts):
        rows = least_table(texts)
        self.rows = rows
        self.steps = {}
        self.end_states = {}
        for state, row in enumerate(rows):
            if row[0]:
                self.end_states[state] = True
            for sign, onward in row[1]:
                self.steps[(state, sign)] = onward

    def table(self):
        return self.rows

    def follow(self, state, sign):
        return self.steps.get((state, sign))

    def ends(self, state):
        return state in self.end_states

    def lets_by(self, text):
        state = 0
        for sign in text:
            state = self.follow(state, sign)
            if state is None:
                return False
        return self.ends(state)
