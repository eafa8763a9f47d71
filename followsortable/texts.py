"""The texts of dependencies, written and read."""
from followsortable.dependency import Fd, Jd, Mvd
from followsortable.errors import InvalidText

# A place in the text of a dependency is a triple. The first item tells which
# set is being read, the left side, the right side or a part, or that a part
# was closed. The second one is the last column of this set, -1 if nothing of
# it was read, or the number of columns behind the sign for the empty set. The
# third one is the mask of the columns read so far, which counts for parts.
START = ("left", -1, 0)


def write(dependency):
    """The text of a dependency."""
    if isinstance(dependency, Jd):
        return "join" + "".join([" [" + _set_text(part) + "]" for part in dependency.parts])
    sign = " > " if isinstance(dependency, Fd) else " >> "
    return _set_text(dependency.left) + sign + _set_text(dependency.right)


def write_all(dependencies):
    """The text of a list of dependencies, one line for each."""
    return "".join([write(dependency) + "\n" for dependency in dependencies])


def read(text, count):
    """The dependency that has a text, for a number of columns; raises InvalidText if there is none."""
    places = _places_behind(text, count, False)
    if not any([_is_end(place, count) for place in places]):
        raise InvalidText(len(text))
    return _dependency_of(text)


def read_all(text, count):
    """The list of dependencies that has a text; raises InvalidText if there is none."""
    if START not in _places_behind(text, count, True):
        raise InvalidText(len(text))
    return [_dependency_of(line) for line in text.split("\n")[:-1]]


def _set_text(columns):
    return " ".join([str(column) for column in columns]) or "-"


def _dependency_of(text):
    """The dependency that has a text of which it is known that there is one."""
    if text.startswith("join"):
        return Jd([_columns_of(part) for part in text[len("join ["):-1].split("] [")])
    if " >> " in text:
        left, right = text.split(" >> ")
        return Mvd(_columns_of(left), _columns_of(right))
    left, right = text.split(" > ")
    return Fd(_columns_of(left), _columns_of(right))


def _columns_of(text):
    return [] if text == "-" else [int(word) for word in text.split(" ")]


def _places_behind(text, count, many):
    """The places behind a text that is a beginning of one of a dependency, or of many; else raises InvalidText.

    The words that may come next are compared sign by sign, all at the same
    time, since several of them begin with the same signs. A text that ends
    within a word has no places behind it.
    """
    places = [START]
    begun = []
    for at, sign in enumerate(text):
        words = begun + [word for place in places for word in _next_words(place, count, many)]
        rests = [(word[1:], place) for word, place in words if word[0] == sign]
        if not rests:
            raise InvalidText(at)
        places = [place for rest, place in rests if rest == ""]
        begun = [(rest, place) for rest, place in rests if rest != ""]
    return places


def _next_words(place, count, many):
    """The words that may come at a place, each with the place behind it."""
    kind, last, seen = place
    words = []
    if many and _is_end(place, count):
        words.append(("\n", START))
    if kind == "closed":
        return words + [(" [", ("part", -1, seen))]
    space = "" if last < 0 else " "
    words.extend([(space + str(column), (kind, column, seen | (1 << column))) for column in range(last + 1, count)])
    if last < 0:
        words.append(("-", (kind, count, seen)))
    if place == START:
        words.append(("join [", ("part", -1, 0)))
    if last >= 0 and kind == "left":
        words.extend([(" > ", ("right", -1, 0)), (" >> ", ("right", -1, 0))])
    if last >= 0 and kind == "part":
        words.append(("]", ("closed", -1, seen)))
    return words


def _is_end(place, count):
    """Whether the text of a dependency may end at a place."""
    kind, last, seen = place
    if kind == "closed":
        return seen == (1 << count) - 1
    return kind == "right" and last >= 0
