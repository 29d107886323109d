"""A second telling of the notation: what is a text, by patterns of lines and a stack of blanks."""
import random
import re

NAME, TARGET, NUMBER = "[a-z]{1,8}", "(?:[a-z]{1,8}|-)", "(?:0|[1-9][0-9]{0,39})"
PLAIN = [("new", NAME), ("mark", NAME, "[0-3]"), ("point", NAME, NAME, TARGET), ("root", NAME, TARGET), ("ask", NAME), ("await", NAME), ("quiet",),
         ("free", NAME), ("later", NAME), ("lock", NAME), ("unlock", NAME)]
STEPS = [("writer", NUMBER), ("writer", NUMBER, NUMBER), ("begin", NAME), ("end", NAME), ("enter",), ("leave", NUMBER), ("root", NUMBER, NAME),
         ("field", NUMBER, NUMBER, NAME), ("mark", NUMBER, NUMBER)]


def one_of(forms):
    return re.compile("|".join(" ".join(form) for form in forms))


def is_run_text(text):
    return text == "" or text.endswith("\n") and all(one_of(STEPS).fullmatch(line) for line in text[:-1].split("\n"))


def are_body_lines(lines, ahead):
    """Whether lines are those of a body with so many blanks ahead: the words that are open, by their depth."""
    open_words = []
    for k, line in enumerate(lines):
        rest = line.lstrip(" ")
        depth, odd = divmod(len(line) - len(rest) - ahead, 2)
        if len(line) - len(rest) > 200 or odd or not 0 <= depth <= len(open_words):
            return False
        if rest == "or":
            if depth == len(open_words) or open_words[depth] != "either":
                return False
            open_words = open_words[:depth + 1]
            continue
        open_words = open_words[:depth]
        if rest in ("either", "loop"):
            open_words.append(rest)
        elif not one_of(PLAIN).fullmatch(rest):
            return False
    return True


def is_statement_text(text):
    lines = text.split("\n")
    inner = all(line.startswith("  ") or line == "or" for line in lines[1:])
    return not lines[0].startswith(" ") and inner and are_body_lines(lines, 0)


def names_of(line, word):
    names = line.split(" ")[1:] if line == word or line.startswith(word + " ") else ["?"]
    fits = all(re.fullmatch(NAME, name) for name in names) and names == sorted(set(names))
    return names if fits else None


def is_program_text(text):
    """Whether a text is one of a program of which the names in statements are known."""
    if not text.endswith("\n"):
        return False
    lines = text[:-1].split("\n")
    if len(lines) < 4 or lines[3] != "writer":
        return False
    cells, roots, fields = [names_of(line, word) for line, word in zip(lines, ["cells", "roots", "fields"])]
    if None in (cells, roots, fields) or not (1 <= len(cells) <= 6 and 1 <= len(roots) <= 2 and len(fields) <= 2):
        return False
    bodies = []
    for line in lines[3:]:
        if line == "writer":
            bodies.append([])
        else:
            bodies[-1].append(line)
    if len(bodies) > 3 or not all(are_body_lines(body, 2) for body in bodies):
        return False
    return all(names_known(line.split(), cells, roots, fields) for body in bodies for line in body)


def names_known(words, cells, roots, fields):
    some = cells + ["-"]
    return {"new": lambda: words[1] in cells, "mark": lambda: words[1] in cells, "free": lambda: words[1] in cells,
            "later": lambda: words[1] in cells, "root": lambda: words[1] in roots and words[2] in some,
            "point": lambda: words[1] in cells and words[2] in fields and words[3] in some}.get(words[0], lambda: True)()


def edits(text, letters, most, seed):
    """The text with one sign put in, left out or otherwise: all of them, or so many at random."""
    found = [text[:k] + letter + text[k:] for k in range(len(text) + 1) for letter in letters]
    found += [text[:k] + text[k + 1:] for k in range(len(text))]
    found += [text[:k] + letter + text[k + 1:] for k in range(len(text)) for letter in letters if letter != text[k]]
    return found if len(found) <= most else random.Random(seed).sample(found, most)


def drawn_statement(rng, depth):
    """A random statement with any names, inner ones so deep."""
    def name():
        return "".join(rng.choice("abelnortwxyz") for k in range(rng.choice([1, 1, 2, 5, 8])))

    def body():
        return [drawn_statement(rng, depth - 1) for k in range(rng.choice([0, 1, 1, 2]))]
    if depth and rng.random() < 0.5:
        return ("loop", body()) if rng.random() < 0.5 else ("either", [body() for k in range(rng.randint(1, 3))])
    form = rng.choice(PLAIN)
    return (form[0], *[rng.randint(0, 3) if part == "[0-3]" else rng.choice([name(), ""]) if part == TARGET else name() for part in form[1:]])


def drawn_step(rng):
    form = rng.choice(STEPS)
    numbers = [0, 1, 7, 10, 10 ** 39, 10 ** 40 - 1]
    return (form[0], *[rng.choice(numbers) if part == NUMBER else rng.choice(["x", "or", "abcdefgh"]) for part in form[1:]])
