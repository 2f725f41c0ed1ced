"""What the commands of a shell do and answer; a value that is no command has no answer, None."""

from lanerules.errors import BadText
from lanerules.fairness import bound_of
from lanerules.histories import earliest
from lanerules.orders import is_order, is_possible
from lanerules.texts import is_number_text, numbers_text, parse_numbers, parse_rule, rule_text

MOST_DIGITS = 20


def number_in(text):
    """The integer with this text, None if it is not the text of one."""
    return int(text) if is_number_text(text, MOST_DIGITS) else None


def rule_in(text):
    """The rule with this text, None if it is not the text of one."""
    try:
        return parse_rule(text)
    except BadText:
        return None


def order_in(row, text):
    """The order of the row with this text, None if it is not the text of one."""
    if len(row) == 0:
        return None
    try:
        order = parse_numbers(text, len(row))
    except BadText:
        return None
    return order if is_order(row, order) else None


def answer_come(crossing, text):
    """The answer to the command come N, None if there is no such command."""
    lane = number_in(text)
    return None if lane is None else f"ok {crossing.come(lane)}"


def answer_go(crossing):
    """The answer to the command go."""
    return f"ok {crossing.go()}"


def answer_change(crossing, text):
    """The answer to the command change RULE, None if there is no such command."""
    rule = rule_in(text)
    return None if rule is None else f"ok {crossing.change(rule)}"


def answer_undo(crossing):
    """The answer to the command undo."""
    return f"ok {crossing.undo()}"


def answer_rule(crossing):
    """The answer to the command rule."""
    return rule_text(crossing.current())


def answer_row(crossing):
    """The answer to the command row."""
    return numbers_text(crossing.row())


def answer_waiting(crossing):
    """The answer to the command waiting."""
    return numbers_text(crossing.waiting())


def answer_passed(crossing):
    """The answer to the command passed."""
    return numbers_text(crossing.passed())


def answer_possible(crossing, text):
    """The answer to the command possible ORDER, None if there is no such command."""
    row = crossing.row()
    order = order_in(row, text)
    if order is None:
        return None
    return "yes" if is_possible(crossing.current(), row, order) else "no"


def answer_history(crossing, text):
    """The answer to the command history ORDER, None if there is no such command."""
    row = crossing.row()
    order = order_in(row, text)
    if order is None:
        return None
    word = earliest(crossing.current(), row, order)
    return "none" if word is None else word


def answer_bound(crossing, text):
    """The answer to the command bound N, None if there is no such command."""
    lane = number_in(text)
    if lane is None:
        return None
    bound = bound_of(crossing.current(), lane)
    return "none" if bound is None else str(bound)


ALONE = {
    "go": answer_go,
    "undo": answer_undo,
    "rule": answer_rule,
    "row": answer_row,
    "waiting": answer_waiting,
    "passed": answer_passed,
}
WITH_TEXT = {
    "come": answer_come,
    "change": answer_change,
    "possible": answer_possible,
    "history": answer_history,
    "bound": answer_bound,
}


def answer_of(crossing, command):
    """The answer to a string, None if it is no command."""
    if command in ALONE:
        alone = ALONE[command]
        return alone(crossing)
    # Without a space the text is empty, and no argument has an empty text.
    word, space, text = command.partition(" ")
    if word not in WITH_TEXT:
        return None
    action = WITH_TEXT[word]
    return action(crossing, text)
