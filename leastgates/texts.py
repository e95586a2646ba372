"""Nets written as texts and read from them."""

from leastgates.errors import BadNet, BadNumber, BadText
from leastgates.nets import net_of_kind

DIGITS = "0123456789"
KINDS = ("oneway", "twoway")

# A number with more digits than this is greater than each size and each place. Python refuses
# to read a number of some thousand digits, so only its first ones are read.
ENOUGH_DIGITS = 9


def net_text(net):
    """The text of a net."""
    lines = [f"{net.KIND} {net.size}\n"] + [f"{a} {b}\n" for a, b in net.ties]
    return "".join(lines)


def net_from(text):
    """The net of a text; BadText(line) with the first wrong line."""
    if not isinstance(text, str):
        raise BadText(1)
    lines = text.split("\n")
    whole = len(lines) - 1
    kind, size = head_words(lines[0], whole > 0)
    net = net_up_to(kind, size, [], 1)
    ties = []
    for at in range(1, len(lines)):
        if at < whole or lines[at] != "":
            ties = ties + [tie_words(lines[at], at < whole, at + 1)]
            net = net_up_to(kind, size, ties, at + 1)
    return net


def head_words(line, ended):
    """The kind and the size that the first line tells."""
    words = line.split(" ")
    if not ended or len(words) != 2 or words[0] not in KINDS or not is_number(words[1]):
        raise BadText(1)
    return words[0], number_of(words[1])


def tie_words(line, ended, number):
    """The two ends that the line of this number tells."""
    words = line.split(" ")
    if not ended or len(words) != 2 or not all([is_number(word) for word in words]):
        raise BadText(number)
    return number_of(words[0]), number_of(words[1])


def is_number(word):
    """True for a number without a sign and without a leading zero."""
    if word == "" or not all([sign in DIGITS for sign in word]):
        return False
    return word == "0" or word[0] != "0"


def number_of(word):
    """The number that the word is; of a long word one that is too great for a size or a place, too."""
    return int(word[:ENOUGH_DIGITS])


def net_up_to(kind, size, ties, line):
    """The net that the lines up to this one give."""
    try:
        return net_of_kind(kind, size, ties)
    except (BadNumber, BadNet) as wrong:
        raise BadText(line) from wrong
