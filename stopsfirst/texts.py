"""Rulebooks as texts: a line with the services, then a line for each rule."""

from stopsfirst.errors import InvalidServices, InvalidText
from stopsfirst.rulebooks import Rulebook
from stopsfirst.rules import kept_rule

# No number that a rule may have is written with more digits.
MOST_DIGITS = 7


def text_of(book):
    lines = [" ".join(["services", *book.services])]
    for rule in book.rules:
        lines.append(" ".join(words_of(rule)))
    return "\n".join(lines)


def words_of(rule):
    write = WRITERS[rule[0]]
    return write(rule)


def imply_words(rule):
    xs = rule[1]
    ys = rule[2]
    if not xs and ys:
        return ["always" if len(ys) == 1 else "some", *ys]
    if xs and not ys:
        return ["never" if len(xs) == 1 else "clash", *xs]
    if len(xs) == 1:
        return ["need" if len(ys) == 1 else "either", *xs, *ys]
    return ["imply", *xs, ":", *ys]


def sum_words(rule):
    return [rule[0], str(rule[2])] + entry_words(rule[1])


def feed_words(rule):
    return ["feed", str(rule[3])] + entry_words(rule[1]) + [":"] + entry_words(rule[2])


def entry_words(entries):
    words = []
    for entry in entries:
        words.extend([str(thing) for thing in entry])
    return words


def table_words(rule):
    words = ["table", *rule[1]]
    for at, lot in enumerate(rule[2]):
        words.append("," if at else ":")
        words.extend(lot)
    return words


def read_book(text):
    if not isinstance(text, str):
        raise InvalidText(0)
    lines = text.split("\n")
    services = told_services(lines[0].split(" "))
    rules = []
    for at in range(1, len(lines)):
        rule = kept_rule(services, told_rule(lines[at].split(" ")))
        if rule is None:
            raise InvalidText(at)
        rules.append(rule)
    return Rulebook(services, rules)


def told_services(words):
    if words[0] != "services":
        raise InvalidText(0)
    try:
        return Rulebook(words[1:], ()).services
    except InvalidServices:
        raise InvalidText(0) from None


def told_rule(words):
    """The words of a line as a rule that is still to be checked, or None if they have no form of one."""
    read = READERS.get(words[0])
    return None if read is None else read(words)


def read_always(words):
    return ["imply", (), words[1:]] if len(words) == 2 else None


def read_some(words):
    return ["imply", (), words[1:]] if len(words) >= 2 else None


def read_never(words):
    return ["imply", words[1:], ()] if len(words) == 2 else None


def read_clash(words):
    return ["imply", words[1:], ()] if len(words) >= 2 else None


def read_need(words):
    return ["imply", words[1:2], words[2:]] if len(words) == 3 else None


def read_either(words):
    return ["imply", words[1:2], words[2:]] if len(words) >= 3 else None


def read_imply(words):
    sides = parted(words[1:], ":")
    return ["imply", sides[0], sides[1]] if len(sides) == 2 else None


def read_cap(words):
    return ["cap", told_entries(words[2:], 1), told_integer(words[1])] if len(words) >= 2 else None


def read_cut(words):
    return ["cut", told_entries(words[2:], 2), told_integer(words[1])] if len(words) >= 2 else None


def read_feed(words):
    sides = parted(words[2:], ":")
    if len(sides) != 2:
        return None
    return ["feed", told_entries(sides[0], 1), told_entries(sides[1], 1), told_integer(words[1])]


def read_table(words):
    sides = parted(words[1:], ":")
    if len(sides) == 1:
        return ["table", sides[0], ()]
    return ["table", sides[0], parted(sides[1], ",")] if len(sides) == 2 else None


def parted(words, sign):
    """The words before the first sign, those from there to the second one, and so on."""
    sides = [[]]
    for word in words:
        if word == sign:
            sides.append([])
        else:
            sides[-1].append(word)
    return sides


def told_entries(words, names):
    """Entries of so many names and an integer each, or None if some words are left over."""
    size = names + 1
    entries = []
    for at in range(0, len(words), size):
        entry = words[at:at + size]
        if len(entry) != size:
            return None
        entries.append(entry[:names] + [told_integer(entry[names])])
    return entries


def told_integer(word):
    """The integer that a word tells, or None. Whether it may be negative is for its rule to say."""
    digits = word[1:] if word.startswith("-") else word
    if not 1 <= len(digits) <= MOST_DIGITS or not all([digit in "0123456789" for digit in digits]):
        return None
    if digits[0] == "0" and word != "0":
        return None
    return int(word)


WRITERS = {
    "imply": imply_words,
    "cap": sum_words,
    "cut": sum_words,
    "feed": feed_words,
    "table": table_words,
}

READERS = {
    "always": read_always,
    "some": read_some,
    "never": read_never,
    "clash": read_clash,
    "need": read_need,
    "either": read_either,
    "imply": read_imply,
    "cap": read_cap,
    "cut": read_cut,
    "feed": read_feed,
    "table": read_table,
}
