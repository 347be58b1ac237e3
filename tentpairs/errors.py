"""The refusals of the program, all under CampError."""


class CampError(ValueError):
    pass


class BadCamp(CampError):
    pass


class BadPairs(CampError):
    pass


class NoCamper(CampError):
    pass


class NoneSteady(CampError):
    def __init__(self, rings):
        # Given words of its own, the error does not keep the list that was handed in.
        CampError.__init__(self, "the camp has no steady pairs")
        self.rings = [list(ring) for ring in rings]


class BadText(CampError):
    def __init__(self, row):
        CampError.__init__(self, "the text is not that of a camp")
        self.row = row
