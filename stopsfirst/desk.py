"""A desk: commands in words, about a rulebook that changes and a running house."""

from stopsfirst.bending import bend
from stopsfirst.errors import InvalidCommand, InvalidText, NotBendable
from stopsfirst.lots import is_lot, is_name
from stopsfirst.merging import merged_plan
from stopsfirst.reach import shortest_plan
from stopsfirst.rulebooks import Rulebook
from stopsfirst.rules import kept_rule
from stopsfirst.running import House
from stopsfirst.texts import text_of, told_rule
from stopsfirst.works import Works

MOST_DIGITS = 4


class Desk:
    """What commands are about: a rulebook that changes, perhaps a running house, and batches."""

    def __init__(self):
        self.works = None
        self.house = None
        self.batches = None

    def __eq__(self, other):
        return (isinstance(other, Desk) and self.works == other.works and self.house == other.house
                and self.batches == other.batches)

    def say(self, command):
        words = command_words(command)
        act = COMMANDS.get(words[0])
        if act is None or words[0] != "services" and self.works is None:
            raise InvalidCommand()
        return act(self, words[1:])


def command_words(command):
    """The words of any value as a command; the first one need be none that is known."""
    if not isinstance(command, str) or "\n" in command:
        raise InvalidCommand()
    words = command.split(" ")
    if "" in words:
        raise InvalidCommand()
    return words


def check_count(words, fewest, most):
    """Refuses too few words, and too many (None stands for any number)."""
    if len(words) < fewest or most is not None and len(words) > most:
        raise InvalidCommand()


def told_state(word):
    state = () if word == "-" else tuple(word.split("+"))
    if not is_lot(state):
        raise InvalidCommand()
    return state


def told_states(words, fewest, most):
    check_count(words, fewest, most)
    return [told_state(word) for word in words]


def told_number(word):
    if len(word) > MOST_DIGITS or not all([digit in "0123456789" for digit in word]):
        raise InvalidCommand()
    if word[0] == "0" and word != "0":
        raise InvalidCommand()
    return int(word)


def state_word(state):
    return "+".join(state) if state else "-"


def state_words(states):
    return [state_word(state) for state in states]


def plan_text(plan):
    return " > ".join(state_words(plan))


def deed_text(parted):
    lost, won = parted
    return f"lost {len(lost)} won {len(won)}"


def left_text(left):
    return "left none" if left is None else f"left {left}"


def house_of(desk):
    if desk.house is None:
        raise InvalidCommand()
    return desk.house


def say_services(desk, words):
    check_count(words, 1, None)
    if not all([is_name(word) for word in words]):
        raise InvalidCommand()
    desk.works = Works(Rulebook(words, ()))
    desk.house = None
    desk.batches = None
    return "ok"


def say_rule(desk, words):
    check_count(words, 1, None)
    rule = kept_rule(desk.works.current.services, told_rule(words))
    if rule is None:
        raise InvalidText(0)
    parted = desk.works.put(rule)
    desk.house = None
    return deed_text(parted)


def say_drop(desk, words):
    check_count(words, 1, 1)
    parted = desk.works.drop(told_number(words[0]))
    desk.house = None
    return deed_text(parted)


def say_undo(desk, words):
    check_count(words, 0, 0)
    desk.house = None
    return "ok" if desk.works.undo() else "nothing"


def say_text(desk, words):
    check_count(words, 0, 0)
    return text_of(desk.works.current)


def say_states(desk, words):
    check_count(words, 0, 0)
    states = desk.works.current.states()
    return " ".join(state_words(states)) if states else "none"


def say_bendable(desk, words):
    check_count(words, 0, 0)
    word, pair = desk.works.verdict()
    return "yes" if word == "steps" else " ".join(["no", *state_words(pair)])


def say_batches(desk, words):
    services = desk.works.current.services
    if words == ["all"]:
        batches = None
    elif words == ["ones"]:
        batches = tuple([(name,) for name in services])
    else:
        batches = tuple(told_states(words, 1, None))
        if not all([desk.works.current.is_state(batch) for batch in batches]):
            raise InvalidCommand()
    desk.batches = batches
    desk.house = None
    return "ok"


def say_plan(desk, words):
    start, goal = told_states(words, 2, 2)
    plan = shortest_plan(desk.works.current, start, goal, desk.batches)
    return "none" if plan is None else plan_text(plan)


def say_bend(desk, words):
    plan = told_states(words, 2, None)
    try:
        return plan_text(merged_plan(bend(desk.works.current, plan)))
    except NotBendable:
        return "no climb"


def say_house(desk, words):
    state = told_states(words, 1, 1)[0]
    desk.house = House(desk.works.current, state, desk.batches)
    return "ok"


def say_aim(desk, words):
    state = told_states(words, 1, 1)[0]
    return left_text(house_of(desk).aim(state))


def say_others(desk, words):
    state = told_states(words, 1, 1)[0]
    return left_text(house_of(desk).others(state))


def say_step(desk, words):
    check_count(words, 0, 0)
    return state_word(house_of(desk).step())


def say_run(desk, words):
    check_count(words, 0, 0)
    return plan_text(house_of(desk).run())


COMMANDS = {
    "services": say_services,
    "rule": say_rule,
    "drop": say_drop,
    "undo": say_undo,
    "text": say_text,
    "states": say_states,
    "bendable": say_bendable,
    "batches": say_batches,
    "plan": say_plan,
    "bend": say_bend,
    "house": say_house,
    "aim": say_aim,
    "others": say_others,
    "step": say_step,
    "run": say_run,
}
