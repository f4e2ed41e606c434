"""The errors of the package: each is constructed from its attributes."""


class SectionError(ArithmeticError):
    """What all errors of the package are."""


class InvalidTriplet(SectionError):
    """An argument, named by part, is no triplet."""

    def __init__(self, part):
        self.part = part


class InvalidSection(SectionError):
    """Part names what is wrong about an array, a section of it, or what is handed on of it."""

    def __init__(self, part):
        self.part = part


class InvalidFamily(SectionError):
    """Part names what of a family is none."""

    def __init__(self, part):
        self.part = part


class InvalidLayout(SectionError):
    """Part names what of a storage layout is wrong."""

    def __init__(self, part):
        self.part = part


class InvalidArgument(SectionError):
    """An argument, named by part, is not what is asked for."""

    def __init__(self, part):
        self.part = part


class InvalidProgram(SectionError):
    """At tells where in a program something is wrong, part what it is."""

    def __init__(self, at, part):
        self.at = at
        self.part = part


class LimitExceeded(SectionError):
    """There would be more than the limit."""

    def __init__(self, limit):
        self.limit = limit
