"""How a run computes expressions: what the tasks of machine.py do with a machine, a thing and an extra."""

from keptbindings.trees import Name
from keptbindings.worths import Closure, Frame, Halt, Rows, are_equal, asked, kind_of, sized

WORDS = {"none": None, "true": True, "false": False}


def compute_name(machine, node, extra):
    """A name reads its variable."""
    machine.read(machine.variable(node))


def compute_literal(machine, node, extra):
    """A number, a text, or a word."""
    if node.text in WORDS:
        machine.worths.append(WORDS[node.text])
    elif node.text[0] == "'":
        machine.worths.append(node.text[1:-1])
    else:
        machine.worths.append(int(node.text))


def compute_group(machine, node, extra):
    """What is in the brackets."""
    machine.push_node(node.inner)


def compute_listing(machine, node, extra):
    """All items, then the list."""
    machine.push("listed", len(node.rows))
    machine.push_nodes(node.rows)


def end_listing(machine, many, extra):
    """The items are computed."""
    machine.worths.append(sized(Rows(machine.take(many))))


def compute_comprehension(machine, node, extra):
    """First the list that it goes over."""
    machine.push("comprehend", node)
    machine.push_node(node.source)


def begin_comprehension(machine, node, extra):
    """The list that it goes over is computed."""
    (source,) = machine.take(1)
    rows = asked(source, "list").rows
    outer = machine.frame
    machine.frame = Frame(outer.module, node.start, outer, None, {})
    machine.push("round", node, (rows, 0, []))


def go_round(machine, node, extra):
    """Begins the next turn of a list with for, or ends it."""
    (rows, at, found) = extra
    if at == len(rows):
        machine.frame = machine.frame.outer
        machine.worths.append(sized(Rows(found)))
        return
    machine.begin_step()
    machine.write(node.name, rows[at])
    machine.push("round", node, (rows, at + 1, found))
    if node.test is None:
        machine.push("kept", found)
        machine.push_node(node.row)
    else:
        machine.push("filter", node, found)
        machine.push_node(node.test)


def filter_row(machine, node, found):
    """The condition of a list with for is computed."""
    (held,) = machine.take(1)
    if asked(held, "bool"):
        machine.push("kept", found)
        machine.push_node(node.row)


def keep_row(machine, found, extra):
    """An item of a list with for is computed."""
    (row,) = machine.take(1)
    found.append(row)


def compute_member(machine, node, extra):
    """A variable of a module, or a member of what is ahead of the point."""
    key = machine.variable(node.name)
    if key is not None:
        machine.read(key)
    else:
        machine.push("member", node)
        machine.push_node(node.left)


def end_member(machine, node, extra):
    """What is ahead of the point is computed."""
    (left,) = machine.take(1)
    machine.ask_member(left, node.name.text)


def compute_index(machine, node, extra):
    """Both sides, then the item."""
    machine.push("index")
    machine.push_nodes([node.left, node.at])


def end_index(machine, thing, extra):
    """Both sides are computed."""
    (left, at) = machine.take(2)
    if kind_of(left) not in ("list", "text"):
        raise Halt("kind")
    asked(at, "integer")
    rows = left.rows if kind_of(left) == "list" else left
    if not 0 <= at < len(rows):
        raise Halt("index")
    machine.worths.append(rows[at])


def compute_call(machine, node, extra):
    """What is called, then the arguments, then the call."""
    machine.push("call", node)
    machine.push_nodes([node.called] + [one.value for one in node.arguments])


def end_call(machine, node, extra):
    """What is called and the arguments are computed."""
    (called, *worths) = machine.take(1 + len(node.arguments))
    given = []
    keywords = {}
    for argument, worth in zip(node.arguments, worths):
        if argument.keyword is None:
            given.append(worth)
        else:
            keywords[argument.keyword.text] = worth
    machine.call(called, given, keywords)


def end_making(machine, instance, extra):
    """The start of a class is done; what it gave is left."""
    machine.take(1)
    machine.worths.append(instance)


def compute_unary(machine, node, extra):
    """What is behind the sign, then the sign."""
    machine.push("unary", node.sign)
    machine.push_node(node.inner)


def end_unary(machine, sign, extra):
    """What is behind the sign is computed."""
    (inner,) = machine.take(1)
    if sign == "not":
        machine.worths.append(not asked(inner, "bool"))
    else:
        machine.worths.append(-asked(inner, "integer"))


def compute_binary(machine, node, extra):
    """The left side, and the right one unless the left one decides; then the sign."""
    if node.sign in ("and", "or"):
        machine.push("choose", node)
        machine.push_node(node.left)
    else:
        machine.push("binary", node.sign)
        machine.push_nodes([node.left, node.right])


def choose(machine, node, extra):
    """The left side of and or or is computed."""
    (left,) = machine.take(1)
    if asked(left, "bool") == (node.sign == "or"):
        machine.worths.append(left)
    else:
        machine.push("chosen")
        machine.push_node(node.right)


def end_choice(machine, thing, extra):
    """The right side of and or or is computed."""
    asked(machine.worths[-1], "bool")


def end_binary(machine, sign, extra):
    """Both sides of a sign are computed."""
    (left, right) = machine.take(2)
    if sign == "==":
        machine.worths.append(are_equal(left, right))
        return
    kind = kind_of(left)
    if kind != kind_of(right):
        raise Halt("kind")
    if sign in ("<", "<=") and kind in ("integer", "text"):
        machine.worths.append(left < right if sign == "<" else left <= right)
    elif sign == "+" and kind == "list":
        machine.worths.append(sized(Rows(left.rows + right.rows)))
    elif kind == "integer" or (sign == "+" and kind == "text"):
        machine.worths.append(sized(_joined(sign, left, right)))
    else:
        raise Halt("kind")


def _joined(sign, left, right):
    if sign == "+":
        return left + right
    return left - right if sign == "-" else left * right


def compute_fn(machine, node, extra):
    """The defaults, then the fn."""
    machine.push("closure", node)
    push_defaults(machine, node)


def push_defaults(machine, node):
    """Adds the tasks that compute the defaults of a def or fn."""
    machine.push_nodes([one.default for one in node.parameters if one.default is not None])


def end_fn(machine, node, extra):
    """The defaults of a fn are computed."""
    machine.worths.append(closure_of(machine, node))


def closure_of(machine, node):
    """A def or fn whose defaults are computed."""
    names = [one.name.text for one in node.parameters if one.default is not None]
    defaults = {name: worth for name, worth in zip(names, machine.take(len(names)))}
    return Closure(node, machine.frame, defaults)


def put_member(machine, target, value):
    """What is ahead of the point of a target is computed; its member gets the value."""
    (left,) = machine.take(1)
    instance = asked(left, "instance")
    instance.names[target.name.text] = value


def put(machine, target, value):
    """A target gets a value."""
    if isinstance(target, Name):
        machine.write(target, value)
    else:
        machine.push("put_member", target, value)
        machine.push_node(target.left)


COMPUTING = {
    "Name": compute_name, "Literal": compute_literal, "Group": compute_group, "Listing": compute_listing,
    "listed": end_listing, "Comprehension": compute_comprehension, "comprehend": begin_comprehension,
    "round": go_round, "filter": filter_row, "kept": keep_row, "Member": compute_member, "member": end_member,
    "Index": compute_index, "index": end_index, "Call": compute_call, "call": end_call, "made": end_making,
    "Unary": compute_unary, "unary": end_unary, "Binary": compute_binary, "binary": end_binary, "choose": choose,
    "chosen": end_choice, "Fn": compute_fn, "closure": end_fn, "put": put, "put_member": put_member,
}
