"""The errors of the program. Each keeps what it tells in attributes."""


class TinkerError(ValueError):
    """What all errors of this program are."""


class BadSigns(TinkerError):
    """A number of signs that is neither 2 nor 3."""

    def __init__(self, signs):
        super().__init__("there must be 2 or 3 signs")
        self.signs = signs


class BadName(TinkerError):
    """A name that does not have the form of one."""

    def __init__(self, name):
        super().__init__("this is no name")
        self.name = name


class BadKind(TinkerError):
    """A kind that is not as told."""

    def __init__(self, name):
        super().__init__(f"the kind {name} is not as told")
        self.name = name


class BadLine(TinkerError):
    """A word that cannot stand where it stands."""

    def __init__(self, line, word):
        super().__init__(f"line {line} is bad at its word {word}")
        self.line = line
        self.word = word


class BadPlan(TinkerError):
    """A part of a plan that does not have its form."""

    def __init__(self, word):
        super().__init__(f"the {word} of the plan do not have their form")
        self.word = word


class BadPlace(TinkerError):
    """A place that does not have its form."""

    def __init__(self, number):
        super().__init__(f"the place {number} does not have its form")
        self.number = number


class BadFilling(TinkerError):
    """A filling that does not fit its plan."""

    def __init__(self, number):
        super().__init__(f"the filling is wrong at {number}")
        self.number = number


class BadBlock(TinkerError):
    """Places that cannot be folded into one."""

    def __init__(self, word):
        super().__init__(f"the block is wrong by its {word}")
        self.word = word


class BadRow(TinkerError):
    """A row that does not fit its plan."""

    def __init__(self, step):
        super().__init__(f"the row is wrong at the step {step}")
        self.step = step


class BadSights(TinkerError):
    """Sights that do not fit their row and plan."""

    def __init__(self, number):
        super().__init__(f"the sights are wrong at {number}")
        self.number = number


class BadHouse(TinkerError):
    """A house that cannot be made so."""

    def __init__(self, word):
        super().__init__(f"the {word} of the house is not as told")
        self.word = word


class BadEntry(TinkerError):
    """An entry that does not have its form."""

    def __init__(self, number):
        super().__init__(f"the entry {number} does not have its form")
        self.number = number


class BadClaim(TinkerError):
    """A claim that is none."""

    def __init__(self, claim):
        super().__init__("this is no claim")
        self.claim = claim


class BadLimit(TinkerError):
    """A limit that is out of bounds."""

    def __init__(self, limit):
        super().__init__("this is no limit")
        self.limit = limit


class BadManual(TinkerError):
    """A part of a manual that does not have its form."""

    def __init__(self, word):
        super().__init__(f"the {word} of the manual do not have their form")
        self.word = word


class BadStatement(TinkerError):
    """A chapter with a statement that is none."""

    def __init__(self, chapter):
        super().__init__(f"the chapter {chapter!r} has a bad statement")
        self.chapter = chapter


class BadCase(TinkerError):
    """A part of a case that is not as told."""

    def __init__(self, word):
        super().__init__(f"the {word} of the case are not as told")
        self.word = word


class BadTest(TinkerError):
    """A test whose row does not fit the plan."""

    def __init__(self, name):
        super().__init__(f"the test {name!r} does not fit the plan")
        self.name = name


class BadSign(TinkerError):
    """A row of signs with something that is none."""

    def __init__(self, number):
        super().__init__(f"the signs are wrong at {number}")
        self.number = number


class BadMenu(TinkerError):
    """A part of a menu that is not as told."""

    def __init__(self, word):
        super().__init__(f"the {word} of the menu are not as told")
        self.word = word


class BadGoal(TinkerError):
    """A goal that does not fit its case."""

    def __init__(self, goal):
        super().__init__("this is no goal for the case")
        self.goal = goal


class BadTerms(TinkerError):
    """Terms with a clause that is none."""

    def __init__(self, number):
        super().__init__(f"the terms are wrong at {number}")
        self.number = number


class TooMany(TinkerError):
    """More things of a kind than there may be."""

    def __init__(self, word):
        super().__init__(f"too many: {word}")
        self.word = word


class TooLong(TinkerError):
    """A manual with too many statements."""

    def __init__(self, number):
        super().__init__(f"{number} statements are too many")
        self.number = number


class TooHeavy(TinkerError):
    """A manual whose weight is too great."""

    def __init__(self, number):
        super().__init__(f"the weight {number} is too great")
        self.number = number


class Twice(TinkerError):
    """A name that is there twice."""

    def __init__(self, name):
        super().__init__(f"{name!r} is there already")
        self.name = name


class Unknown(TinkerError):
    """A name that is not there."""

    def __init__(self, name):
        super().__init__(f"{name!r} is not there")
        self.name = name


class Unfit(TinkerError):
    """A place that its kinds or parts do not fit."""

    def __init__(self, name):
        super().__init__(f"nothing fits so at {name!r}")
        self.name = name


class Unlike(TinkerError):
    """Two things that cannot be compared."""

    def __init__(self, word):
        super().__init__(f"they are unlike: {word}")
        self.word = word


class Ring(TinkerError):
    """Something that hangs on itself."""

    def __init__(self, name):
        super().__init__(f"{name!r} hangs on itself")
        self.name = name


class Stray(TinkerError):
    """A chapter with a leave outside of all repeats."""

    def __init__(self, chapter):
        super().__init__(f"{chapter!r} has a leave in no repeat")
        self.chapter = chapter


class Flees(TinkerError):
    """A fleeing condition where none may be."""

    def __init__(self, number):
        super().__init__(f"the place {number} is broken in a fleeing way")
        self.number = number


class NotThere(TinkerError):
    """A part that is not where it is looked for."""

    def __init__(self, part):
        super().__init__(f"the part {part} is not there")
        self.part = part


class NoBench(TinkerError):
    """A place with nothing on the bench."""

    def __init__(self, place):
        super().__init__(f"nothing on the bench is of {place!r}")
        self.place = place


class Away(TinkerError):
    """A machine that is given out."""

    def __init__(self, machine):
        super().__init__(f"{machine!r} is given out")
        self.machine = machine


class Here(TinkerError):
    """A machine that is in the house."""

    def __init__(self, machine):
        super().__init__(f"{machine!r} is in the house")
        self.machine = machine


class NoMoment(TinkerError):
    """A moment that is none."""

    def __init__(self, moment):
        super().__init__("this is no moment of the book")
        self.moment = moment


class NoNews(TinkerError):
    """A number of an entry that is no news."""

    def __init__(self, number):
        super().__init__(f"{number!r} is no news")
        self.number = number


class NoWorld(TinkerError):
    """A moment at which no world is left."""

    def __init__(self, moment):
        super().__init__(f"no world is left at the moment {moment}")
        self.moment = moment


class NoPart(TinkerError):
    """A part that has not come."""

    def __init__(self, part):
        super().__init__("there is no such part")
        self.part = part


class NoManual(TinkerError):
    """A case that no manual can surely end."""

    def __init__(self, number):
        super().__init__(f"no manual: {number} nodes have no value")
        self.number = number


class Torn(TinkerError):
    """A journal whose heading is not whole."""

    def __init__(self, line):
        super().__init__(f"the heading is torn at the line {line}")
        self.line = line
