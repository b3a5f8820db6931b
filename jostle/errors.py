"""The refusals, one class for each."""


# Under ValueError, so that a caller may take all refusals by one name.
class DeedError(ValueError):
    pass


class BadMinds(DeedError):
    pass


class BadRow(DeedError):
    pass


class BadPlaces(DeedError):
    pass


class Minding(DeedError):
    def __init__(self, at):
        DeedError.__init__(self, "an exchange of two deeds that mind each other can't be done")
        self.at = at
