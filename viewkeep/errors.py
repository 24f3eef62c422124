"""The refusals."""


class ViewError(ValueError):
    pass


class NoName(ViewError):
    pass


class NoPlace(ViewError):
    pass


class Unlike(ViewError):
    pass


class Wide(ViewError):
    pass


class Twice(ViewError):
    pass


class NoText(ViewError):
    pass


class TooLarge(ViewError):
    pass


class NoWidth(ViewError):
    pass


class NoRow(ViewError):
    pass


class NoCount(ViewError):
    pass


class Short(ViewError):
    pass


class NoChange(ViewError):
    pass
