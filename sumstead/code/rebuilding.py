"""Code while it is rebuilt: instructions that know which instructions of the old code they stand for.

Jumps keep naming instructions of the old code until all is done.
"""


def goal_of(instruction):
    """The index that an instruction names, or None."""
    if instruction[0] == "jump" or instruction[0] == "unless" or instruction[0] == "fold":
        return instruction[-1]
    return None


def plain_ones(code):
    """For each instruction whether it is plain: no instruction names it, and no fold stands directly ahead."""
    found = [True] * len(code)
    for index, instruction in enumerate(code):
        goal = goal_of(instruction)
        if goal is not None:
            found[goal] = False
        if instruction[0] == "fold":
            found[index + 1] = False
    return found


class Rebuilt:
    """An instruction of the new code, and the indices of the old code that lead to it now."""

    def __init__(self, instruction, olds):
        self.instruction = instruction
        self.olds = olds

    def told_word(self):
        """The word of the instruction."""
        return self.instruction[0]


def assembled(rebuilt):
    """The code of rebuilt instructions, which name those of the new code from now on."""
    seats = {}
    for index, one in enumerate(rebuilt):
        for old in one.olds:
            seats[old] = index
    code = []
    for one in rebuilt:
        goal = goal_of(one.instruction)
        if goal is None:
            code.append(one.instruction)
        else:
            code.append(one.instruction[:-1] + (seats[goal],))
    return tuple(code)
