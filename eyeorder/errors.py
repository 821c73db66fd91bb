"""The errors of the package; each carries what it is about as an attribute.

No message shows that value: it may be of any size and kind, and whoever catches the error has it whole.
"""


class EyeError(Exception):
    """The base class of all errors of this package."""


class BadPlace(EyeError):
    def __init__(self, thing):
        super().__init__("not a place")
        self.thing = thing


class BadLine(EyeError):
    def __init__(self, thing):
        super().__init__("not a line")
        self.thing = thing


class BadPlan(EyeError):
    def __init__(self, thing):
        super().__init__("not a plan")
        self.thing = thing


class BadOrder(EyeError):
    def __init__(self, thing):
        super().__init__("not an order of the plan")
        self.thing = thing


class BadTree(EyeError):
    def __init__(self, thing):
        super().__init__("not a tree of the plan")
        self.thing = thing


class BadEye(EyeError):
    def __init__(self, thing):
        super().__init__("not an eye of the plan")
        self.thing = thing


class BadPieces(EyeError):
    def __init__(self, thing):
        super().__init__("not the pieces of the tree, each once")
        self.thing = thing


class BadDirection(EyeError):
    def __init__(self, thing):
        super().__init__("not a direction")
        self.thing = thing


class BadCamera(EyeError):
    def __init__(self, thing):
        super().__init__("not a camera of the plan")
        self.thing = thing


class BadNumber(EyeError):
    def __init__(self, thing):
        super().__init__("not a number that fits here")
        self.thing = thing


class BadBox(EyeError):
    def __init__(self, thing):
        super().__init__("not a box of the tree")
        self.thing = thing


class BadCell(EyeError):
    def __init__(self, thing):
        super().__init__("not the number of a cell")
        self.thing = thing


class BadChain(EyeError):
    def __init__(self, thing):
        super().__init__("not a chain from the cell")
        self.thing = thing


class BadWall(EyeError):
    def __init__(self, thing):
        super().__init__("not a wall that fits the plan")
        self.thing = thing


class BadName(EyeError):
    def __init__(self, thing):
        super().__init__("not the name of a wall of the plan")
        self.thing = thing


class BadText(EyeError):
    def __init__(self, line):
        super().__init__("not the text of a plan")
        self.line = line
