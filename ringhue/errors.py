"""The refusals of the program, each with what it was refused for."""


class HueError(ValueError):
    """Any refusal."""


class NotProper(HueError):
    """A house has the label of its next."""

    def __init__(self, house):
        super().__init__(f"house {house} has the label of its next")
        self.house = house


class NoHouse(HueError):
    """There is no house of that number."""

    def __init__(self, house):
        super().__init__(f"there is no house {house}")
        self.house = house


class NotReady(HueError):
    """A house can't go yet, or has no rounds left."""

    def __init__(self, house):
        super().__init__(f"house {house} can't go")
        self.house = house


class NoText(HueError):
    """A text writes no pointing."""

    def __init__(self, text):
        super().__init__("the text writes no pointing")
        self.text = text


class NoRow(HueError):
    """A row says nothing that the desk answers."""

    def __init__(self, text):
        super().__init__("the desk answers no such row")
        self.text = text
