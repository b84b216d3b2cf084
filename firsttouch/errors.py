"""The errors that the package raises.

Each keeps the very objects that it is made of. Its message does not show
them: they may be any objects, also ones too deep to be written out.
"""


class TouchError(ValueError):
    """What all errors of the package have in common."""


class BadProgram(TouchError):
    """Something is no library: the module, and the path of the row that is none."""

    def __init__(self, module, path):
        super().__init__("this is no library")
        self.module = module
        self.path = path


class BadText(TouchError):
    """A text is not written as libraries are: the number of the line."""

    def __init__(self, line):
        super().__init__("a line of the text cannot stand there")
        self.line = line


class BadWord(TouchError):
    """Something is no word, or no module of the library."""

    def __init__(self, word):
        super().__init__("this is no such word")
        self.word = word


class BadPlace(TouchError):
    """Something is none of the library's places."""

    def __init__(self, place):
        super().__init__("this is no place of the library")
        self.place = place


class BadDeed(TouchError):
    """Something is no deed."""

    def __init__(self, deed):
        super().__init__("this is no deed")
        self.deed = deed


class BadEye(TouchError):
    """Something is no eye."""

    def __init__(self, eye):
        super().__init__("this is no eye")
        self.eye = eye


class OtherProgram(TouchError):
    """Two things are not of the very same library."""

    def __init__(self):
        super().__init__("these are not of the very same library")


class TooMany(TouchError):
    """There are more states than may be looked at."""

    def __init__(self, most):
        super().__init__("there are more states than may be looked at")
        self.most = most
