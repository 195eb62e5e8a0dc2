"""Texts of families and plans."""

from leastheads.errors import InvalidText
from leastheads.plans import is_plan, require_plan
from leastheads.queues import is_family, require_family

DIGITS = "0123456789"


def is_digits(word):
    """Return whether the word writes an integer from 0 on, without leading zeros."""
    if len(word) == 0 or not all([sign in DIGITS for sign in word]):
        return False
    return word == "0" or word[0] != "0"


def digits_in(word):
    """Return the word without a minus sign at its beginning."""
    return word[1:] if word.startswith("-") else word


def is_number_text(word):
    """Return whether the word is the text of a number."""
    return is_digits(digits_in(word)) and word != "-0"


def read_number(word):
    """Return the number with this text; the word is known to be one."""
    number = 0
    # Digit by digit, since int refuses texts of more than 4,300 digits.
    for digit in digits_in(word):
        number = number * 10 + int(digit)
    return -number if word.startswith("-") else number


def show_number(number):
    """Return the text of the number."""
    digits = []
    rest = abs(number)
    # Digit by digit, since str refuses numbers of more than 4,300 digits.
    while rest > 0 or len(digits) == 0:
        rest, digit = divmod(rest, 10)
        digits.append(str(digit))
    minus = "-" if number < 0 else ""
    return minus + "".join(digits[::-1])


def show_queue(numbers):
    """Return the text of a queue."""
    if len(numbers) == 0:
        return "_"
    return ",".join([show_number(number) for number in numbers])


def read_queue(word):
    """Return the queue that the word writes; raise InvalidText if it writes none."""
    if word == "_":
        return []
    words = word.split(",")
    if not all([is_number_text(part) for part in words]):
        raise InvalidText("not numbers with commas between")
    return [read_number(part) for part in words]


def show_family(family):
    """Return the text of the family."""
    require_family(family)
    return " ".join([show_queue(queue) for queue in family])


def read_family(text):
    """Return the family with this text."""
    if not isinstance(text, str):
        raise InvalidText("not a text")
    family = [read_queue(word) for word in text.split(" ")]
    if not is_family(family):
        raise InvalidText("a number occurs twice")
    return family


def show_part(part):
    """Return the text of a plan or of a part of it."""
    if not isinstance(part, list):
        return show_number(part)
    inner = ",".join([show_part(one) for one in part])
    return f"({inner})"


def show_plan(plan):
    """Return the text of the plan."""
    require_plan(plan)
    return show_part(plan)


def parts_in(text):
    """Return the parts that a text writes one behind the other, or None.

    Commas count as blanks here, and blanks anywhere: so this also reads texts of no plan.
    """
    # A stack of lists, since a text may nest parentheses deeper than calls can go.
    parts = [[]]
    spaced = text.replace("(", " ( ").replace(")", " ) ").replace(",", " ")
    for word in spaced.split():
        if word == "(":
            parts.append([])
        elif word == ")" and len(parts) > 1:
            inner = parts.pop()
            parts[-1].append(inner)
        elif is_digits(word):
            parts[-1].append(read_number(word))
        else:
            return None
    return parts[0] if len(parts) == 1 else None


def read_plan(text):
    """Return the plan with this text."""
    if not isinstance(text, str):
        raise InvalidText("not a text")
    parts = parts_in(text)
    if parts is None or len(parts) != 1 or not is_plan(parts[0]):
        raise InvalidText("not parts of a plan in parentheses")
    # Each plan has one text: all others of those that `parts_in` reads end here.
    if show_plan(parts[0]) != text:
        raise InvalidText("not written as plans are")
    return parts[0]
