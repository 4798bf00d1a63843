"""The refusals: each one a class of its own, straight under BourseError."""


class BourseError(ValueError):
    pass


# A text that is no name.
class BadName(BourseError):
    pass


# A number out of its bounds.
class BadNumber(BourseError):
    pass


# Something to deal out and nobody to have it.
class NoWeight(BourseError):
    pass


# A text that is no side.
class BadSide(BourseError):
    pass


# A text that is no kind of order.
class BadKind(BourseError):
    pass


# A text that is no phase.
class BadPhase(BourseError):
    pass


# No order of that name is there.
class NoOrder(BourseError):
    pass


# A name that is there already.
class Twice(BourseError):
    pass


# A deed that the phase does not take.
class NotNow(BourseError):
    pass


# Dues that go in a ring.
class Ring(BourseError):
    pass


# More to be torn up than others hold.
class Unheld(BourseError):
    pass


# No house of that name sits here.
class NoSeat(BourseError):
    pass


# No ware of that name is there.
class NoWare(BourseError):
    pass


# A purse that could not bear it.
class Short(BourseError):
    pass


# A text or a tuple that is no deed or fact.
class NoDeed(BourseError):
    pass


# Facts that no row of deeds tells.
class NoTape(BourseError):
    pass
