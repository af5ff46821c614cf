"""The errors of the package: one class for each kind of failure."""


class SlotsumsError(ValueError):
    """A value that cannot be what the document asks for."""


class InvalidNumber(SlotsumsError):
    """A value that is no number, or none of the kind that is asked for."""
    def __init__(self, value):
        self.value = value


class InvalidName(SlotsumsError):
    """A value that is no name."""
    def __init__(self, value):
        self.value = value


class InvalidCount(SlotsumsError):
    """A value that is no count that is accepted here."""
    def __init__(self, value):
        self.value = value


class InvalidSlots(SlotsumsError):
    """No list of sorts, or the position of what is no sort."""
    def __init__(self, position):
        self.position = position


class InvalidTurn(SlotsumsError):
    """The position of a value that is no turn for the slots."""
    def __init__(self, position):
        self.position = position


class InvalidPlaces(SlotsumsError):
    """A value that is no places that are accepted here."""
    def __init__(self, value):
        self.value = value


class InvalidSizes(SlotsumsError):
    """A value that is no sizes."""
    def __init__(self, value):
        self.value = value


class InvalidContents(SlotsumsError):
    """The position of contents that no store can have."""
    def __init__(self, position):
        self.position = position


class InvalidEntry(SlotsumsError):
    """An entry that its store cannot have."""
    def __init__(self, position, places):
        self.position = position
        self.places = places


class InvalidTold(SlotsumsError):
    """No told row, or the position of what cannot stand in one."""
    def __init__(self, position):
        self.position = position


class InvalidFactors(SlotsumsError):
    """No list of factors, or the position of what is no factor."""
    def __init__(self, position):
        self.position = position


class InvalidSorts(SlotsumsError):
    """No list of sorts, or the position of what is no sort."""
    def __init__(self, position):
        self.position = position


class InvalidTerms(SlotsumsError):
    """No list of terms, or the position of what is no term."""
    def __init__(self, position):
        self.position = position


class InvalidExpression(SlotsumsError):
    """A value that is no expression."""
    def __init__(self, value):
        self.value = value


class InvalidHeld(SlotsumsError):
    """No list of held positions, or the position of what cannot be held."""
    def __init__(self, position):
        self.position = position


class InvalidPosition(SlotsumsError):
    """A value that is no position that is accepted here."""
    def __init__(self, value):
        self.value = value


class InvalidSum(SlotsumsError):
    """A sum over a name that would be in no factor."""
    def __init__(self, position):
        self.position = position


class InvalidOrder(SlotsumsError):
    """A value that is no order."""
    def __init__(self, value):
        self.value = value


class InvalidPartition(SlotsumsError):
    """A value that is no partition of the term."""
    def __init__(self, value):
        self.value = value


class InvalidExpressions(SlotsumsError):
    """No list of expressions, or the position of what is no expression."""
    def __init__(self, position):
        self.position = position


class InvalidPlan(SlotsumsError):
    """A value that is no plan of the term."""
    def __init__(self, value):
        self.value = value


class InvalidNames(SlotsumsError):
    """A value that is no list of names that are not told."""
    def __init__(self, value):
        self.value = value


class InvalidPolynomial(SlotsumsError):
    """A value that is no polynomial."""
    def __init__(self, value):
        self.value = value


class InvalidGrowth(SlotsumsError):
    """A value that is no growth."""
    def __init__(self, value):
        self.value = value


class InvalidChange(SlotsumsError):
    """A value that is no change of the table."""
    def __init__(self, value):
        self.value = value


class InvalidWeights(SlotsumsError):
    """A value that is no weights."""
    def __init__(self, value):
        self.value = value


class InvalidPatterns(SlotsumsError):
    """No list of patterns, or the position of what is no pattern."""
    def __init__(self, position):
        self.position = position


class EmptyEntry(SlotsumsError):
    """Places of a pattern in an empty class."""
    def __init__(self, position, places):
        self.position = position
        self.places = places


class InvalidText(SlotsumsError):
    """A text that cannot be read."""
    def __init__(self, line):
        self.line = line


class InvalidDefinitions(SlotsumsError):
    """No list of definitions, or the position of what is no definition."""
    def __init__(self, position):
        self.position = position


class InvalidClaim(SlotsumsError):
    """A value that is no claim."""
    def __init__(self, value):
        self.value = value


class InvalidCommand(SlotsumsError):
    """A value that is no command."""
    def __init__(self, value):
        self.value = value


class OtherSort(SlotsumsError):
    """A name that would have two sorts."""
    def __init__(self, name):
        self.name = name


class OtherSorts(SlotsumsError):
    """Told sorts that should be equal."""
    def __init__(self, position):
        self.position = position


class OtherTable(SlotsumsError):
    """Two unlike tables of one name."""
    def __init__(self, name):
        self.name = name


class OtherNames(SlotsumsError):
    """A name that only one of two programs defines."""
    def __init__(self, name):
        self.name = name


class Vanishing(SlotsumsError):
    """A table whose entries would all be 0."""
    def __init__(self, name):
        self.name = name


class ChangesSign(SlotsumsError):
    """A table that changes its sign, in a question."""
    def __init__(self, name):
        self.name = name


class NoFactors(SlotsumsError):
    """A term without factors."""


class TooMany(SlotsumsError):
    """More of a kind than are allowed."""
    def __init__(self, kind, limit):
        self.kind = kind
        self.limit = limit


class MissingError(LookupError):
    """Something that is not there."""


class UnknownSort(MissingError):
    """A sort without a size."""
    def __init__(self, name):
        self.name = name


class UnknownName(MissingError):
    """A name that is not known here."""
    def __init__(self, value):
        self.value = value


class StateError(RuntimeError):
    """Something that cannot be done as things are."""


class NameTaken(StateError):
    """A name that is defined already."""
    def __init__(self, name):
        self.name = name


class NothingToUndo(StateError):
    """There is no command that could be taken back."""


class DividedByZero(StateError):
    """A number divided by 0."""
