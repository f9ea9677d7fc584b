"""A command desk: a workspace that is told what to do by lines of text, and answers by strings."""

from renamesteps.errors import BadLine, BadPool
from renamesteps.names import is_name, is_pool
from renamesteps.parts import frozen_declarations
from renamesteps.reading import read_program
from renamesteps.regions import needed_in, region_of, width_of
from renamesteps.renames import free_names
from renamesteps.workspace import Workspace
from renamesteps.writing import write_program

DIGITS = "0123456789"
MOST_DIGITS = 3


def told_list(values):
    """The answer for a tuple of names or numbers."""
    return " ".join([str(value) for value in values]) if values else "-"


def told_plan(plan):
    """The answer for a plan."""
    return told_list([f"{declaration}:{name}" for declaration, name in plan])


def answer_rename(space, values):
    return told_list(space.rename_one(values[0], values[1]))


def answer_give(space, values):
    return told_plan(space.give_name(values[0], values[1]))


def answer_use(space, values):
    return told_plan(space.use_in(values[0], values[1]))


def answer_goto(space, values):
    return told_plan(space.go_to(values))


def answer_unuse(space, values):
    space.unuse_in(values[0], values[1])
    return "done"


def answer_undo(space, values):
    space.undo()
    return "done"


def answer_widen(space, values):
    return told_list(space.widen_pool(values[0]))


def answer_naming(space, values):
    return told_list(space.current_naming())


def answer_pool(space, values):
    return told_list(space.current_pool())


def answer_text(space, values):
    text = write_program(space.current_program(), space.current_naming())
    return text.replace("\n", " / ") if text else "-"


def answer_region(space, values):
    return told_list(region_of(space.current_program(), values[0]))


def answer_needed(space, values):
    return told_list(needed_in(space.current_program(), values[0]))


def answer_free(space, values):
    return told_list(free_names(space.current_program(), space.current_naming(), values[0], space.current_pool()))


def answer_frozen(space, values):
    return told_list(frozen_declarations(space.current_program(), space.current_pool()))


def answer_width(space, values):
    return str(width_of(space.current_program()))


def answer_changes(space, values):
    return str(space.change_count())


# What answers a line of each form. A form is the first word of a line, and what each of the others is.
ANSWERS = {
    "rename N NAME": answer_rename,
    "give N NAME": answer_give,
    "use N N": answer_use,
    "goto NAME ...": answer_goto,
    "unuse N N": answer_unuse,
    "undo": answer_undo,
    "widen NAME": answer_widen,
    "naming": answer_naming,
    "pool": answer_pool,
    "text": answer_text,
    "region N": answer_region,
    "needed N": answer_needed,
    "free N": answer_free,
    "frozen": answer_frozen,
    "width": answer_width,
    "changes": answer_changes,
}


def is_number_word(word):
    """Whether a word is a number of 1 to 3 digits without leading zeros."""
    # Methods such as isdigit would also accept other digits than 0 to 9.
    if not 1 <= len(word) <= MOST_DIGITS or not all([letter in DIGITS for letter in word]):
        return False
    return word == "0" or word[0] != "0"


def kind_of_word(word):
    """What a word behind the first one is in a form; the empty string for what has no place in any form."""
    if is_number_word(word):
        return "N"
    return "NAME" if is_name(word) else ""


def form_of_line(words):
    """The form of the words of a line, which need not be one of those that are answered."""
    kinds = [kind_of_word(word) for word in words[1:]]
    if words[0] == "goto" and all([kind == "NAME" for kind in kinds]):
        return "goto NAME ..."
    return " ".join([words[0]] + kinds)


def values_of_words(words):
    """The tuple of the numbers and names that these words are."""
    return tuple([int(word) if is_number_word(word) else word for word in words])


def described_pool(names):
    """The pool that any value describes, or None if it describes none."""
    if not isinstance(names, str):
        return None
    # The empty string has no names, but splitting it would give one.
    pool = tuple(names.split(" ")) if names else ()
    return pool if is_pool(pool) else None


class Desk:
    """A workspace that is told what to do by lines of text."""

    def __init__(self, text="", names="a b c"):
        program, naming = read_program(text)
        pool = described_pool(names)
        if pool is None:
            raise BadPool(names)
        self.space = Workspace(program, naming, pool)

    def say(self, line):
        """Does what the line says, and returns the answer."""
        if not isinstance(line, str):
            raise BadLine(line)
        words = line.split(" ")
        form = form_of_line(words)
        if form not in ANSWERS:
            raise BadLine(line)
        answer = ANSWERS[form]
        return answer(self.space, values_of_words(words[1:]))
