"""The pass that leaves out what is never come to, and choices that are told ahead."""

from sumstead.code.rebuilding import Rebuilt, assembled, goal_of


class Pruner:
    """Rebuilds code from its first instruction on.

    All jumps lead on, so all that lead to an instruction were rebuilt ahead of it.
    """

    def __init__(self):
        self.rebuilt = []
        # How many of the rebuilt instructions name an instruction of the old code.
        self.named = {}
        # Instructions of the old code that are gone; who came to them comes to the next one now.
        self.gone = []
        self.comes = True

    def put(self, instruction, index):
        """Puts an instruction of the old code, if it is come to, behind the others."""
        if not self.comes and self.named.get(index, 0) == 0:
            return
        olds = self.gone + [index]
        self.gone = []
        olds = self._without_jumps_to(olds)
        if instruction[0] == "unless" and self._is_told_ahead(olds):
            truth = self.rebuilt.pop()
            olds = truth.olds + olds
            if truth.instruction[1]:
                self.gone = olds
                self.comes = True
                return
            instruction = ("jump", instruction[1])
        self._append(instruction, olds)

    def _append(self, instruction, olds):
        self.rebuilt.append(Rebuilt(instruction, olds))
        self.comes = instruction[0] != "jump" and instruction[0] != "tell"
        goal = goal_of(instruction)
        if goal is not None:
            self.named[goal] = self.named.get(goal, 0) + 1

    def _without_jumps_to(self, olds):
        """Takes back jumps that lead where the next instruction stands anyway."""
        while len(self.rebuilt) > 0 and self.rebuilt[-1].told_word() == "jump":
            goal = self.rebuilt[-1].instruction[1]
            if goal not in olds:
                break
            self.named[goal] = self.named[goal] - 1
            olds = self.rebuilt.pop().olds + olds
        return olds

    def _is_told_ahead(self, olds):
        """Whether an `unless` is plain, and stands directly behind a truth."""
        if len(self.rebuilt) == 0 or self.rebuilt[-1].told_word() != "truth":
            return False
        return not any([self.named.get(old, 0) > 0 for old in olds])


def pruned_code(code):
    """Sound code to all of whose instructions a way leads, without choices and jumps that are none."""
    pruner = Pruner()
    for index, instruction in enumerate(code):
        pruner.put(instruction, index)
    return assembled(pruner.rebuilt)
