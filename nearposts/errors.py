"""The refusals of the program."""


class PostError(ValueError):
    pass


class NoMany(PostError):
    pass


class NoPosts(PostError):
    pass


class NoReach(PostError):
    pass


class NoRing(PostError):
    pass


class NoLine(PostError):
    pass


class NoWord(PostError):
    pass


class NoFolk(PostError):
    def __init__(self, number):
        PostError.__init__(self, f"number {number} of the folk can't be one of them")
        self.number = number


class NoPost(PostError):
    def __init__(self, number):
        PostError.__init__(self, f"number {number} of the posts can't be one of them")
        self.number = number


class NoTable(PostError):
    def __init__(self, row):
        PostError.__init__(self, f"row {row} makes this no table")
        self.row = row


class NoWay(PostError):
    def __init__(self, three):
        PostError.__init__(self, f"a way round is shorter: {three!r}")
        self.three = three


class NoThing(PostError):
    def __init__(self, thing):
        PostError.__init__(self, f"nothing has the number {thing}")
        self.thing = thing


class NoText(PostError):
    def __init__(self, at):
        PostError.__init__(self, f"word {at} can't be read")
        self.at = at


class NoName(PostError):
    def __init__(self, name):
        PostError.__init__(self, f"no field stands by the name {name!r}")
        self.name = name
