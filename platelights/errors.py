"""The errors of the package: each one keeps what it is made with, and all stand under LightError."""


class LightError(ValueError):
    """What all errors of this package are."""


class InvalidNumber(LightError):
    """A value that is no whole number, or none that fits its place."""

    def __init__(self, given):
        self.given = given


class InvalidNumbers(LightError):
    """A value that is no such tuple of whole numbers."""

    def __init__(self, given):
        self.given = given


class InvalidFraction(LightError):
    """A value that is no fraction, or none that fits its place."""

    def __init__(self, given):
        self.given = given


class InvalidSurd(LightError):
    """A value that is no surd."""

    def __init__(self, given):
        self.given = given


class InvalidLight(LightError):
    """A value that is no light."""

    def __init__(self, given):
        self.given = given


class InvalidKind(LightError):
    """A value that is no kind."""

    def __init__(self, given):
        self.given = given


class InvalidLook(LightError):
    """A value that is no look."""

    def __init__(self, given):
        self.given = given


class InvalidTable(LightError):
    """A value that is no table."""

    def __init__(self, given):
        self.given = given


class InvalidRows(LightError):
    """A value that is no four rows of four whole numbers."""

    def __init__(self, given):
        self.given = given


class InvalidPlate(LightError):
    """A value that is no plate."""

    def __init__(self, given):
        self.given = given


class InvalidTurn(LightError):
    """A value that is no turn."""

    def __init__(self, given):
        self.given = given


class InvalidSetting(LightError):
    """A value that is no setting."""

    def __init__(self, given):
        self.given = given


class InvalidAmplitude(LightError):
    """A value that is no amplitude."""

    def __init__(self, given):
        self.given = given


class InvalidMatrix(LightError):
    """A value that is no matrix."""

    def __init__(self, given):
        self.given = given


class InvalidRow(LightError):
    """A value that is no row of four Gaussians."""

    def __init__(self, given):
        self.given = given


class InvalidReading(LightError):
    """A value that is no reading."""

    def __init__(self, given):
        self.given = given


class InvalidIndex(LightError):
    """A value that is no index here."""

    def __init__(self, given):
        self.given = given


class InvalidRig(LightError):
    """A value that is no rig."""

    def __init__(self, given):
        self.given = given


class InvalidCourse(LightError):
    """A value that is no course."""

    def __init__(self, given):
        self.given = given


class InvalidName(LightError):
    """A value that is no name."""

    def __init__(self, given):
        self.given = given


class InvalidWish(LightError):
    """A value that is no wish."""

    def __init__(self, given):
        self.given = given


class InvalidPhrase(LightError):
    """A line that a console does not take."""

    def __init__(self, given):
        self.given = given


class NoLight(LightError):
    """Numbers that a light is led to and that are no light."""

    def __init__(self, given):
        self.given = given


class NotABench(LightError):
    """A value that is no bench."""

    def __init__(self, given):
        self.given = given


class UnknownName(LightError):
    """A name that is not in use."""

    def __init__(self, given):
        self.given = given


class NameTaken(LightError):
    """A name that stands for a thing of another sort."""

    def __init__(self, given):
        self.given = given


class InUse(LightError):
    """A beam that still has the thing."""

    def __init__(self, given):
        self.given = given


class InvalidStack(LightError):
    """The index of what is no plate, or too many; None for no tuple."""

    def __init__(self, index):
        self.index = index


class InvalidImages(LightError):
    """The index of what is no image; None for no tuple of four."""

    def __init__(self, index):
        self.index = index


class InvalidLights(LightError):
    """The index of what is no light, or too many; None for no tuple."""

    def __init__(self, index):
        self.index = index


class InvalidReadings(LightError):
    """The index of what is no reading, or too many; None for no tuple."""

    def __init__(self, index):
        self.index = index


class InvalidTables(LightError):
    """The index of what is no table, or too many; None for no tuple, or ()."""

    def __init__(self, index):
        self.index = index


class InvalidPairs(LightError):
    """The index of what is no pair of lights, or too many; None for no tuple."""

    def __init__(self, index):
        self.index = index


class InvalidKinds(LightError):
    """The index of what is no kind, or too many; None for no tuple."""

    def __init__(self, index):
        self.index = index


class InvalidParts(LightError):
    """The index of what is no fraction; None for no tuple of five."""

    def __init__(self, index):
        self.index = index


class InvalidSamples(LightError):
    """The index of what is no sample here; None for no tuple of five."""

    def __init__(self, index):
        self.index = index


class InvalidNames(LightError):
    """The index of what is no name here, or too many; None for no tuple."""

    def __init__(self, index):
        self.index = index


class Broken(LightError):
    """The index of the first wish that would not hold."""

    def __init__(self, index):
        self.index = index


class Dark(LightError):
    """The dark light, where it has no answer."""


class NoLightFits(LightError):
    """No light fits the readings."""


class NoTurnFits(LightError):
    """No turn fits the pairs."""


class NotTold(LightError):
    """The courses do not tell the light."""


class NotFading(LightError):
    """The light does not fade."""


class NothingToUndo(LightError):
    """There is no change to take back."""
