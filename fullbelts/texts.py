"""Programs, machines and codes as texts."""

from fullbelts.programs import goals_of, reads_of


def program_text(program):
    """The lines of the steps."""
    return "".join([step_line(step) for step in program.steps])


def step_line(step):
    # A tell and a test have what they read as their name already.
    names = [step[1], *step[2]] if step[0] == "make" else list(reads_of(step))
    return line_of([step[0], *names, *[str(place) for place in goals_of(step)]])


def line_of(words):
    return " ".join(words) + "\n"


def machine_text(machine):
    """The line of the lengths."""
    return line_of([str(length) for length in machine.belts])


def code_text(code):
    """The lines of the places that read or make, and of the ways that have carries."""
    rooms = code.rooms
    belts = code.belts
    carries = code.carries
    places = sorted([*rooms, *[place for place in belts if place not in rooms]])
    lines = [place_line(place, rooms.get(place, ()), belts.get(place)) for place in places]
    return "".join(lines + [way_line(way, carries[way]) for way in sorted(carries)])


def place_line(place, rooms, belt):
    front = [] if belt is None else [">", str(belt)]
    return line_of([str(place)] + [room_word(room) for room in rooms] + front)


def way_line(way, carries):
    return line_of([f"{way[0]}/{way[1]}"] + [f"{room_word(room)}>{belt}" for room, belt in carries])


def room_word(room):
    return f"{room[0]}.{room[1]}"
