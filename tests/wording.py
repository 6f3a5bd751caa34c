"""Texts after the words of the document, by patterns: what is none of the forms, and what the lines tell."""

import re

NUMBER = "(?:0|[1-9][0-9]{0,8})"
NAME = "[a-z]{1,8}"
STEP = re.compile(f"make {NAME}(?: {NAME}){{0,2}} {NUMBER}|tell {NAME} {NUMBER}|test {NAME}(?: {NUMBER}){{2,3}}"
                  f"|go {NUMBER}|end")
LENGTHS = re.compile(f"{NUMBER}(?: {NUMBER})*")
ROOM = f"{NUMBER}\\.{NUMBER}"
PLACE = re.compile(f"{NUMBER}(?: {ROOM})+(?: > {NUMBER})?|{NUMBER} > {NUMBER}")
WAY = re.compile(f"{NUMBER}/{NUMBER}(?: {ROOM}>{NUMBER})+")


def bad_line(text, form):
    """The number of the first line that is not of the form, or 0; what stands behind the last line feed is a line."""
    lines = text.split("\n")
    for number, line in enumerate(lines[:-1], start=1):
        if not form(number, line):
            return number
    return len(lines) if lines[-1] else 0


def bad_program_line(text):
    if type(text) is not str:
        return 0
    found = bad_line(text, lambda number, line: STEP.fullmatch(line))
    return found or (1 if text == "" else None)


def bad_machine_line(text):
    if type(text) is not str:
        return 0
    found = bad_line(text, lambda number, line: number == 1 and LENGTHS.fullmatch(line))
    return found or (1 if text == "" else None)


def order(line):
    """What tells the order of a line of a code."""
    place = re.match("([0-9]+)/([0-9]+)", line)
    return (1, int(place[1]), int(place[2])) if place else (0, int(line.split(" ")[0]))


def bad_code_line(text):
    if type(text) is not str:
        return 0
    lines = text.split("\n")

    def fits(number, line):
        if not PLACE.fullmatch(line) and not WAY.fullmatch(line):
            return False
        return number == 1 or order(lines[number - 2]) < order(line)
    return bad_line(text, fits) or None


def number_or_word(word):
    return int(word) if word.isdigit() else word


def told_steps(text):
    """The steps of a text without bad lines."""
    steps = []
    for line in text.split("\n")[:-1]:
        words = [number_or_word(word) for word in line.split(" ")]
        if words[0] == "make":
            words = ["make", words[1], tuple(words[2:-1]), words[-1]]
        elif words[0] == "test":
            words = ["test", words[1], tuple(words[2:])]
        steps.append(tuple(words))
    return tuple(steps)


def told_lengths(text):
    return tuple([int(word) for word in text.split()])


def told_code(text):
    """The rooms, belts and carries of a text without bad lines."""
    rooms, belts, carries = {}, {}, {}
    for line in text.split("\n")[:-1]:
        head = line.split(" ")[0]
        if "/" in head:
            carries[tuple(map(int, head.split("/")))] = tuple([
                ((int(belt), int(place)), int(front))
                for belt, place, front in re.findall("([0-9]+)\\.([0-9]+)>([0-9]+)", line)])
        else:
            found = tuple([(int(belt), int(place)) for belt, place in re.findall("([0-9]+)\\.([0-9]+)", line)])
            if found:
                rooms[int(head)] = found
            if ">" in line:
                belts[int(head)] = int(line.split(" ")[-1])
    return rooms, belts, carries


def changed_text(rng, text):
    """The text with some signs or lines put in, left out, exchanged or written twice."""
    found = text
    for _ in range(rng.choice((1, 1, 2))):
        at = rng.randrange(len(found) + 1)
        kind = rng.randrange(8)
        lines = found.split("\n")
        if kind == 0:
            found = found[:at] + found[at + 1:]
        elif kind == 1:
            found = found[:at] + rng.choice(" \n\t0123456789aZ.>/|-+_") + found[at:]
        elif kind == 2:
            found = found[:at] + rng.choice(" \n0123456789azG.>/") + found[at + 1:]
        elif kind == 3:
            one = rng.randrange(len(lines))
            found = "\n".join(lines[:one] + [lines[one]] + lines[one:])
        elif kind == 4:
            rng.shuffle(lines)
            found = "\n".join(lines)
        elif kind == 5:
            found = "\n".join([line for line in lines if line != rng.choice(lines)])
        elif kind == 6:
            words = found.split(" ")
            one = rng.randrange(len(words))
            words[one] = rng.choice(("", "make", "0", "1", "2", "x", "end", "0.0", "1.0", ">", "0/0", words[one] * 2))
            found = " ".join(words)
        else:
            found += rng.choice((" ", "\n", "end", "end\n", "0", "0.0\n", "9 0.0\n"))
    return found
