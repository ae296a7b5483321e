"""The errors of the package. Each keeps the very values that it was created with."""


class OtherError(ValueError):
    """What all errors of the package are."""


class InvalidNodes(OtherError):
    def __init__(self, given):
        self.given = given


class InvalidTasks(OtherError):
    def __init__(self, given):
        self.given = given


class InvalidTask(OtherError):
    def __init__(self, given):
        self.given = given


class InvalidNode(OtherError):
    def __init__(self, given):
        self.given = given


class InvalidLoad(OtherError):
    def __init__(self, given):
        self.given = given


class InvalidLasts(OtherError):
    def __init__(self, given):
        self.given = given


class InvalidLine(OtherError):
    def __init__(self, given):
        self.given = given


class InvalidSchedule(OtherError):
    def __init__(self, given):
        self.given = given


class InvalidNumber(OtherError):
    def __init__(self, given):
        self.given = given


class InvalidRows(OtherError):
    def __init__(self, given):
        self.given = given


class InvalidLast(OtherError):
    def __init__(self, given):
        self.given = given


class InvalidLetter(OtherError):
    def __init__(self, given):
        self.given = given


class InvalidIndex(OtherError):
    def __init__(self, given):
        self.given = given


class InvalidRests(OtherError):
    def __init__(self, given):
        self.given = given


class InvalidGroup(OtherError):
    def __init__(self, given):
        self.given = given


class InvalidBuild(OtherError):
    def __init__(self, given):
        self.given = given


class InvalidBounds(OtherError):
    def __init__(self, given):
        self.given = given


class InvalidKnown(OtherError):
    def __init__(self, given):
        self.given = given


class InvalidEnds(OtherError):
    def __init__(self, given):
        self.given = given


class InvalidProfile(OtherError):
    def __init__(self, given):
        self.given = given


class InvalidOther(OtherError):
    def __init__(self, given):
        self.given = given


class InvalidPairs(OtherError):
    def __init__(self, given):
        self.given = given


class InvalidNexts(OtherError):
    def __init__(self, given):
        self.given = given


class InvalidTies(OtherError):
    def __init__(self, given):
        self.given = given


class InvalidTints(OtherError):
    def __init__(self, given):
        self.given = given


class InvalidClubs(OtherError):
    def __init__(self, given):
        self.given = given


class InvalidAir(OtherError):
    def __init__(self, given):
        self.given = given


class InvalidDeeds(OtherError):
    def __init__(self, given):
        self.given = given


class TooMany(OtherError):
    def __init__(self, count):
        self.count = count


class NotAnEnd(OtherError):
    def __init__(self, task, node):
        self.task = task
        self.node = node


class NotMinded(OtherError):
    def __init__(self, task, node):
        self.task = task
        self.node = node


class NothingLeft(OtherError):
    def __init__(self, task):
        self.task = task


class Barred(OtherError):
    def __init__(self, nodes):
        self.nodes = nodes


class Stopped(OtherError):
    def __init__(self, at, reached):
        self.at = at
        self.reached = reached


class Impossible(OtherError):
    def __init__(self, defect):
        self.defect = defect


class NotComplete(OtherError):
    def __init__(self, schedule):
        self.schedule = schedule


class NotLeast(OtherError):
    def __init__(self, at, task):
        self.at = at
        self.task = task


class NotStuck(OtherError):
    def __init__(self, task):
        self.task = task


class NotAsking(OtherError):
    def __init__(self, task):
        self.task = task


class FalseLasts(OtherError):
    def __init__(self, reason):
        self.reason = reason


class Circled(OtherError):
    def __init__(self, circle):
        self.circle = circle


class NoLast(OtherError):
    def __init__(self, node):
        self.node = node


class NeverAhead(OtherError):
    def __init__(self, way):
        self.way = way


class NotAbove(OtherError):
    def __init__(self, task):
        self.task = task


class NotThatOften(OtherError):
    def __init__(self, most):
        self.most = most


class NeverLast(OtherError):
    def __init__(self, way):
        self.way = way


class NoPartner(OtherError):
    def __init__(self, node):
        self.node = node


class SharedTask(OtherError):
    def __init__(self, task):
        self.task = task


class SameNode(OtherError):
    def __init__(self, node):
        self.node = node


class NotForEver(OtherError):
    def __init__(self, node, task):
        self.node = node
        self.task = task


class NoErrand(OtherError):
    def __init__(self, node, branch):
        self.node = node
        self.branch = branch


class Unequal(OtherError):
    def __init__(self, task):
        self.task = task


class NoFit(OtherError):
    def __init__(self, ring):
        self.ring = ring


class NotForest(OtherError):
    def __init__(self, ring):
        self.ring = ring


class NotBetween(OtherError):
    def __init__(self, node):
        self.node = node


class NotBehind(OtherError):
    def __init__(self, node):
        self.node = node


class NotPlain(OtherError):
    def __init__(self, task):
        self.task = task


class NotTree(OtherError):
    def __init__(self, reason):
        self.reason = reason


class NoDay(OtherError):
    def __init__(self, least, most):
        self.least = least
        self.most = most


class NoSchedule(OtherError):
    def __init__(self, fence):
        self.fence = fence


class NotRegular(OtherError):
    def __init__(self, node):
        self.node = node


class Spoils(OtherError):
    def __init__(self, node, task):
        self.node = node
        self.task = task


class NothingToUndo(OtherError):
    """No deed can be taken back."""


class NothingToRedo(OtherError):
    """No deed can be done again."""
