"""The refusals of the program, each with what it was refused for."""

# No message tells the number of a house: Python writes none of more than some
# thousand figures, and a refusal can be of any whole number.


class HueError(ValueError):
    """Any refusal."""


class NotProper(HueError):
    """A house has the label of its next."""

    def __init__(self, house):
        super().__init__("a house has the label of its next")
        self.house = house


class NoHouse(HueError):
    """There is no house of that number."""

    def __init__(self, house):
        super().__init__("there is no house of that number")
        self.house = house


class NotReady(HueError):
    """A house can't go yet, or has no rounds left."""

    def __init__(self, house):
        super().__init__("the house can't go")
        self.house = house


class NoText(HueError):
    """A text writes no pointing."""

    def __init__(self, text):
        super().__init__("the text writes no pointing")
        self.text = text


class NoRow(HueError):
    """A row says nothing that the desk answers."""

    def __init__(self, text):
        super().__init__("the desk answers no such row")
        self.text = text
