"""Plans written as texts, with a line for each room, and read from them."""

from mustmay.errors import NoText
from mustmay.plans import LETTERS, MOST_SIGNS, Plan, is_action_list

FIGURES = "0123456789"
SHUT = ("shut", None)


def is_room_name(text):
    if not 1 <= len(text) <= MOST_SIGNS or text[0] not in LETTERS:
        return False
    return all([sign in LETTERS or sign in FIGURES for sign in text])


def read_actions(line):
    words = line.split(" ")
    if words[0] != "actions" or not is_action_list(words[1:]):
        return None
    return words[1:]


def named_rooms(lines):
    numbers = {}
    for number, line in enumerate(lines):
        if ":" in line:
            numbers.setdefault(line.partition(":")[0], number)
    return numbers


def is_written_door(words, actions, numbers):
    if len(words) != 3 or words[0] not in actions or words[1] not in ("must", "may"):
        return False
    # Lines that cannot stand give names too, which may have any form.
    return is_room_name(words[2]) and words[2] in numbers


def read_doors(text, actions, numbers):
    doors = [SHUT for name in actions]
    if text == "":
        return doors
    if not text.startswith(" "):
        return None
    for written in text[1:].split(", "):
        words = written.split(" ")
        if not is_written_door(words, actions, numbers):
            return None
        action = actions.index(words[0])
        if doors[action] != SHUT:
            return None
        doors[action] = (words[1], numbers[words[2]])
    return doors


def read_room(line, number, actions, numbers):
    name = line.partition(":")[0]
    # By no name is a line without a colon the first one, so it ends here too.
    if not is_room_name(name) or numbers.get(name) != number:
        return None
    return read_doors(line[len(name) + 1:], actions, numbers)


def read_plan(text):
    lines = text.split("\n")
    actions = read_actions(lines[0])
    if actions is None:
        raise NoText(0)
    if len(lines) == 1:
        raise NoText(1)
    numbers = named_rooms(lines[1:])
    rows = []
    for number, line in enumerate(lines[1:]):
        doors = read_room(line, number, actions, numbers)
        if doors is None:
            raise NoText(number + 1)
        rows.append(doors)
    return Plan(actions, rows)


def door_text(name, told):
    word = told[0]
    to = told[1]
    return f"{name} {word} r{to}"


def room_text(room, row, actions):
    doors = [door_text(name, told) for name, told in zip(actions, row) if told != SHUT]
    if doors == []:
        return f"r{room}:"
    written = ", ".join(doors)
    return f"r{room}: {written}"


def plan_text(plan):
    actions = plan.action_list()
    lines = [" ".join(["actions"] + actions)]
    lines.extend([room_text(room, row, actions) for room, row in enumerate(plan.told())])
    return "\n".join(lines)
