"""The desk as the document's words say it, by patterns over whole rows, to hold the program against."""

import re

import reckoned

NUMBER = "(0|[1-9][0-9]*)"
FEW = "(0|[1-9][0-9]{0,8})"
MANY = "(0|[1-9][0-9]{0,18})"
POINTING = re.compile(NUMBER + "(?: " + NUMBER + ")*")
NAMES = re.compile("names((?: " + MANY + ")+)")
PATTERNS = {
    "road": re.compile(f"road {FEW} {FEW}"),
    "label": re.compile(f"label {FEW} {FEW}"),
    "go": re.compile(f"go {FEW}"),
}


class Desk:
    """Answers ("told", text), or the name of the refusal and its field."""

    def __init__(self):
        self.pointing = [1, 0]
        self.all_labels = None
        self.done = None

    def say(self, row):
        if row.startswith("pointing "):
            return self.take_pointing(row[len("pointing "):])
        if row == "show":
            return self.told(self.pointing)
        if NAMES.fullmatch(row):
            return self.take_names(row)
        for word, pattern in PATTERNS.items():
            found = pattern.fullmatch(row)
            if found:
                return getattr(self, word)(row, *[int(number) for number in found.groups()])
        if self.all_labels is not None:
            for word in ("done", "ready", "rounds", "hues", "apart", "pairs"):
                if row == word:
                    return getattr(self, "say_" + word)()
        return "NoRow", row

    def told(self, numbers):
        return "told", " ".join(str(number) for number in numbers)

    def take_pointing(self, text):
        if not POINTING.fullmatch(text) or len(text) > 200:
            return "NoText", text
        goals = [int(word) for word in text.split(" ")]
        many = len(goals)
        if not 2 <= many <= 60 or any(goal >= many or goal == house for house, goal in enumerate(goals)):
            return "NoText", text
        self.pointing = goals
        self.all_labels = None
        return "told", "ok"

    def take_names(self, row):
        m, *names = [int(word) for word in row.split(" ")[1:]]
        if not 2 <= m <= 10 ** 18 or len(names) != len(self.pointing):
            return "NoRow", row
        if len(set(names)) < len(names) or any(name >= m for name in names):
            return "NoRow", row
        self.all_labels = reckoned.all_labels(self.pointing, tuple(names), m)
        self.done = [0] * len(names)
        return "told", "ok"

    def road(self, row, house, k):
        if k > 100:
            return "NoRow", row
        if house >= len(self.pointing):
            return "NoHouse", house
        told = [house]
        while len(told) <= k:
            told.append(self.pointing[told[-1]])
        return self.told(told)

    def label(self, row, house, k):
        if self.all_labels is None:
            return "NoRow", row
        if house >= len(self.pointing):
            return "NoHouse", house
        if k > self.done[house]:
            return "told", "none"
        return self.told([self.all_labels[k][house]])

    def go(self, row, house):
        if self.all_labels is None:
            return "NoRow", row
        if house >= len(self.pointing):
            return "NoHouse", house
        if house not in self.ready():
            return "NotReady", house
        self.done[house] += 1
        return self.told([self.all_labels[self.done[house]][house]])

    def ready(self):
        return [house for house, goal in enumerate(self.pointing)
                if self.done[house] < len(self.all_labels) - 1 and self.done[goal] >= self.done[house]]

    def say_done(self):
        return self.told(self.done)

    def say_ready(self):
        return self.told(self.ready() or ["none"])

    def say_rounds(self):
        return self.told([len(self.all_labels) - 1])

    def say_hues(self):
        return self.told(self.all_labels[-1])

    def say_apart(self):
        return self.told(reckoned.apart(self.pointing, self.all_labels[-1]))

    def say_pairs(self):
        pairs = reckoned.paired(self.pointing, self.all_labels[-1])
        return self.told([str(house) + ":" + str(goal) for house, goal in pairs])
