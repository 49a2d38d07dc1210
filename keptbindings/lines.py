"""The lines of journals: how they are written, and what they tell."""

from keptbindings.operations import Operation
from keptbindings.projects import Edit
from keptbindings.tokens import DIGITS

FACTOR = 257
MODULUS = 9999991
# A number with more digits is none of a place in a text.
MOST_DIGITS = 9


def checked(at, line):
    """The line with this index, with its check number behind it."""
    number = at
    for char in line:
        number = (number * FACTOR + ord(char)) % MODULUS
    return f"{line} #{number:07d}\n"


def read_checked(at, row):
    """The line with this index that stands in a row ahead of its check number, or None if that is not right."""
    (line, _, _) = row.rpartition(" #")
    return line if checked(at, line) == row + "\n" else None


def module_line(name, text):
    """The line for a module."""
    return f"module {name} {_packed(text)}"


def read_module_line(line):
    """The name and the text of the module of which a line tells, or None."""
    words = line.split(" ")
    if len(words) != 3 or words[0] != "module":
        return None
    text = _unpacked(words[2])
    return None if text is None else (words[1], text)


def _packed(text):
    return "~" + text.replace("~", "~t").replace(" ", "~s").replace("\n", "~n")


def _unpacked(word):
    """The text that a word has been made of, or None."""
    if word[:1] != "~":
        return None
    text = word[1:].replace("~s", " ").replace("~n", "\n").replace("~t", "~")
    return text if _packed(text) == word else None


def _place_word(place):
    return f"{place[0]}:{place[1]}"


def step_line(step):
    """The line for a step that was done."""
    if isinstance(step, Edit):
        return f"edit {step.module} {step.start} {step.end} {_packed(step.text)}"
    told = step.arguments
    words = [step.kind]
    if step.kind == "rename":
        words.extend([_place_word(place) + "=" + told["wishes"][place] for place in sorted(told["wishes"])])
        words.extend([_place_word(place) for place in told["pinned"]])
    elif step.kind == "extract":
        words.extend([told["module"], str(told["start"]), str(told["end"]), told["name"]])
    else:
        words.append(_place_word(told["place"]))
    if step.kind == "move":
        words.append(told["module"])
    if step.kind == "parameters":
        words.extend(told["order"])
        words.extend([name + "=" + _packed(text) for name, text in told["added"]])
    return " ".join(words)


def read_step(line):
    """The step of which a line tells, or None if no step has this line."""
    words = line.split(" ")
    step = _step_of(words[0], words[1:])
    return step if step is not None and step_line(step) == line else None


def _step_of(kind, words):
    """The step of a kind that words tell of, or None where they are too few or of another form."""
    if kind == "edit" and len(words) == 4:
        (start, end, text) = (_number(words[1]), _number(words[2]), _unpacked(words[3]))
        return None if None in (start, end, text) else Edit(words[0], start, end, text)
    if kind == "extract" and len(words) == 4:
        names = ("module", "start", "end", "name")
        told = [words[0], _number(words[1]), _number(words[2]), words[3]]
        return None if None in told else Operation(kind, {name: one for name, one in zip(names, told)})
    if kind == "rename":
        return _rename_of(words)
    place = _place(words[0]) if words else None
    if place is None:
        return None
    if kind == "parameters":
        return _parameters_of(place, words[1:])
    if kind == "move" and len(words) == 2:
        return Operation(kind, {"place": place, "module": words[1]})
    if kind in ("inline", "drop") and len(words) == 1:
        return Operation(kind, {"place": place})
    return None


def _rename_of(words):
    wishes = {}
    pinned = []
    for word in words:
        (left, sign, name) = word.partition("=")
        place = _place(left)
        if place is None:
            return None
        if sign == "":
            pinned.append(place)
        else:
            wishes[place] = name
    return Operation("rename", {"wishes": wishes, "pinned": pinned})


def _parameters_of(place, words):
    order = []
    added = []
    for word in words:
        (name, sign, packed) = word.partition("=")
        text = _unpacked(packed)
        if sign == "":
            order.append(name)
        elif text is None:
            return None
        else:
            added.append((name, text))
    return Operation("parameters", {"place": place, "order": order, "added": added})


def _place(word):
    """The place of which a word tells, or None."""
    (module, _, start) = word.partition(":")
    number = _number(start)
    return None if number is None else (module, number)


def _number(word):
    """The number that a word tells, or None."""
    if word == "" or len(word) > MOST_DIGITS or not all([char in DIGITS for char in word]):
        return None
    return int(word)
