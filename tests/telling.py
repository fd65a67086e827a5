"""Texts of programs for the tests: read plainly, and written in many ways."""

import re

from helpers import raised
from openloops.programs import Program

NUMBER = "(0|[1-9][0-9]*)"
SUMMAND = f"({NUMBER}|{NUMBER}?n[012])"
FORM = f"{SUMMAND}([+]{SUMMAND})*"
AMOUNT = re.compile(f"(?P<bare>{FORM})(-(?P<less>{NUMBER}))?|[(](?P<inner>{FORM})(-(?P<taken>{NUMBER}))?[)]/(?P<by>[1-9][0-9]*)")


def plain_lines(text):
    """Return the words of each line."""
    lines = text.split("\n")
    if lines[-1] == "":
        lines.pop()
    return [re.findall("[^ ]+", re.sub("#.*", "", line)) for line in lines]


def plain_amount_read(many, word):
    """Return the amount that a word tells, None if it tells none."""
    found = AMOUNT.fullmatch(word)
    if found is None:
        return None
    numbers = [0] * (many + 1)
    for summand in (found["bare"] or found["inner"]).split("+"):
        if "n" in summand:
            number, at = summand.split("n")
            if int(at) >= many:
                return None
            numbers[int(at) + 1] += 1 if number == "" else int(number)
        else:
            numbers[0] += int(summand)
    return (tuple(numbers), int(found["less"] or found["taken"] or 0), int(found["by"] or 1))


def plain_read(text):
    """Return the program that a text tells, None if it tells none: read by going down into rows."""
    rows = [words for words in plain_lines(text) if words != []]
    parts = []
    while rows != []:
        words = rows.pop(0)
        if len(words) != 3 or words[0] != "part" or words[2] not in ("0", "1", "2", "3"):
            return None
        many = int(words[2])
        body = read_row(many, rows)
        if body is None or rows == [] or rows.pop(0) != ["end"]:
            return None
        parts.append((words[1], many, body))
    return Program(parts) if raised(lambda: Program(parts)) is None else None


def read_row(many, rows):
    """Take the statements of a row from the front of lines; None if a line is wrong."""
    found = []
    while rows != [] and rows[0] not in (["end"], ["else"]):
        statement = read_statement(many, rows.pop(0), rows)
        if statement is None:
            return None
        found.append(statement)
    return found


def read_statement(many, words, rows):
    if words[0] == "write" and len(words) == 2:
        return ("write", words[1])
    if words[0] == "call" and len(words) >= 2:
        amounts = [plain_amount_read(many, word) for word in words[2:]]
        return None if None in amounts else ("call", words[1], amounts)
    if words[0] not in ("times", "when") or len(words) < 2:
        return None
    amount = plain_amount_read(many, words[1])
    if amount is None:
        return None
    if words[0] == "times":
        body = read_row(many, rows) if len(words) == 2 else None
        return ("times", amount, body) if body is not None and rows != [] and rows.pop(0) == ["end"] else None
    numbers = re.fullmatch(f"below {NUMBER}|leaves {NUMBER} by {NUMBER}", " ".join(words[2:]))
    if numbers is None:
        return None
    body, other = read_row(many, rows), []
    if body is not None and rows != [] and rows[0] == ["else"]:
        rows.pop(0)
        other = read_row(many, rows)
    if body is None or other is None or rows == [] or rows.pop(0) != ["end"]:
        return None
    if words[2] == "below":
        return ("below", amount, int(numbers[1]), body, other)
    return ("leaves", amount, int(numbers[2]), int(numbers[3]), body, other)


def can_go_on(lines):
    """Tell whether a text that is read begins with lines: they can be completed with lines `end`."""
    return any(plain_read("\n".join(lines + ["end"] * more)) is not None for more in range(15))


def plain_wrong_line(text):
    """Return the number of the first line with which no text that is read goes on."""
    if plain_read(text) is not None:
        return None
    lines = text.split("\n")
    if lines[-1] == "":
        lines.pop()
    for at in range(1, len(lines) + 1):
        if not can_go_on(lines[:at]):
            return at
    return len(lines) + 1


def plain_kept(text):
    """Return the numbers of the lines that are left out, and the lines that are not."""
    lines, kept, left = text.split("\n"), [], []
    if lines[-1] == "":
        lines.pop()
    for at, line in enumerate(lines):
        if can_go_on(kept + [line]):
            kept.append(line)
        else:
            left.append(at + 1)
    return left, kept


def loose_amount(chance, amount):
    """Return an amount written in another way."""
    form, less, by = amount
    summands = []
    for at, number in enumerate(form):
        name = "" if at == 0 else f"n{at - 1}"
        parts = [number] if number < 2 or chance.random() < 0.5 else [1, number - 1]
        for part in parts:
            if part > 0 or chance.random() < 0.3:
                summands.append(name if part == 1 and name != "" and chance.random() < 0.5 else f"{part}{name}")
    chance.shuffle(summands)
    text = "+".join(summands) if summands else "0"
    text += f"-{less}" if less > 0 or chance.random() < 0.3 else ""
    return f"({text})/{by}" if by > 1 or chance.random() < 0.3 else text


def loose_text(chance, program):
    """Return a text of a program with blanks, remarks, lines without words and amounts written in other ways."""
    lines = []
    for name, many, body in program.parts():
        lines.append(["part", name, str(many)])
        loose_row(chance, lines, body)
        lines.append(["end"])
    text = ""
    for words in lines:
        while chance.random() < 0.2:
            text += chance.choice(["\n", "  \n", "# end\n", "   #\tpart x 0 # 1\n"])
        text += " " * chance.randint(0, 3) + (" " * chance.randint(1, 3)).join(words) + " " * chance.randint(0, 2)
        text += chance.choice(["", "", "# write x", "#"]) + "\n"
    return text if chance.random() < 0.5 else text[:-1]


def loose_row(chance, lines, row):
    for statement in row:
        kind = statement[0]
        if kind == "write":
            lines.append(["write", statement[1]])
        elif kind == "call":
            lines.append(["call", statement[1]] + [loose_amount(chance, amount) for amount in statement[2]])
        elif kind == "times":
            lines.append(["times", loose_amount(chance, statement[1])])
            loose_row(chance, lines, statement[2])
            lines.append(["end"])
        else:
            behind = [str(statement[2])] if kind == "below" else [str(statement[2]), "by", str(statement[3])]
            lines.append(["when", loose_amount(chance, statement[1]), kind] + behind)
            loose_row(chance, lines, statement[-2])
            if statement[-1] != [] or chance.random() < 0.5:
                lines.append(["else"])
                loose_row(chance, lines, statement[-1])
            lines.append(["end"])


WORDS = ["part", "end", "else", "write", "times", "when", "call", "below", "leaves", "by", "a", "b", "ab", "0", "1", "2", "4",
         "n0", "n1", "n2", "n3", "2n0+1", "(n0)/2", "(n0)", "n0-1", "00", "A", "-1", "#", "1+", ""]
LINES = ["end", "else", "write a", "times 2", "times n2", "when n0 below 1", "when 1 leaves 0 by 2", "part a 0", "part z 3",
         "call a", "call a 1", "call a 1 2", "call b n0", "", "# more", "odd", "write a b", "when 1 leaves 2 by 2"]


def spoilt_text(chance, text):
    """Return a text in which one line, or one word of a line, is changed, left out or put in."""
    lines = text.split("\n")
    at = chance.randrange(len(lines))
    kind = chance.choice(["change", "leave", "put", "swap", "word", "without", "more"])
    words = lines[at].split(" ")
    place = chance.randrange(len(words))
    if kind == "change":
        lines[at] = chance.choice(LINES)
    elif kind == "leave":
        del lines[at]
    elif kind == "put":
        lines.insert(at, chance.choice(LINES))
    elif kind == "swap":
        other = chance.randrange(len(lines))
        lines[at], lines[other] = lines[other], lines[at]
    elif kind == "word":
        lines[at] = " ".join(words[:place] + [chance.choice(WORDS)] + words[place + 1:])
    elif kind == "without":
        lines[at] = " ".join(words[:place] + words[place + 1:])
    else:
        lines[at] = " ".join(words[:place] + [chance.choice(WORDS)] + words[place:])
    return "\n".join(lines)
