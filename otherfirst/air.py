"""Air: shared tasks that nobody minds, but that the same two nodes do not run twice running either."""

from otherfirst.checks import check_many, check_task, is_task_list
from otherfirst.courses import Course
from otherfirst.decide import defect
from otherfirst.errors import Impossible, InvalidAir
from otherfirst.kinds import is_ascending, is_index, is_row


class AirCourse:
    """A course with air. The room of a task of the air is how much more often it could be left, if it is not filled.

    A task is filled while it is the last of both of its ends; then it has to have room.
    """

    def __init__(self, state, air):
        net = state.net
        self._course = Course(state)
        self._filled = {task: all([state.lasts[node] == task for node in net.ends(task)]) for task in air}
        self._room = {task: touching(state, task) + 1 - state.load[task] for task in air}
        self._touched = [[other for other in _touched(net, task) if other in self._room] for task in range(len(net))]

    def can_run(self, task):
        return self._course.can_run(task) and not self._filled.get(task, False)

    def run(self, task):
        """Runs a task that can be run."""
        self._course.run(task)
        for other in self._touched[task]:
            self._room[other] -= 1
            self._filled[other] = False
        if task in self._room:
            self._room[task] += 1
            self._filled[task] = True

    def can_keep(self, task):
        """Whether a task can be run and, if all could be done, all the rest can still be done behind its run."""
        if not self.can_run(task) or self._course.closers(task) != []:
            return False
        return all([self._room[other] > 0 for other in self._touched[task]])

    def is_over(self):
        """Whether nothing is left."""
        return self._course.is_over()

    def close(self):
        """The least task of the air that is left too often, or None."""
        found = [task for task in self._room if self._room[task] < int(self._filled[task])]
        return min(found, default=None)


def touching(state, task):
    """The number of runs left of all other tasks that have an end in common with the task."""
    check_task(state.net, task)
    return sum([state.load[other] for other in _touched(state.net, task)])


def air_defect(state, air):
    """Why there is no complete schedule with air: a task too often, a close one, or a ring. None if there is one."""
    _check_air(state.net, air)
    found = defect(state)
    if found is not None and found[0] == "often":
        return found
    task = AirCourse(state, air).close()
    return found if task is None else ("close", task)


def air_schedule(state, air):
    """A complete schedule with air."""
    _check_air(state.net, air)
    check_many(state.total())
    found = air_defect(state, air)
    if found is not None:
        raise Impossible(found)
    course = AirCourse(state, air)
    schedule = []
    while not course.is_over():
        schedule.append(_least_kept(course, len(state.net)))
        course.run(schedule[-1])
    return schedule


def is_air_schedule(state, air, value):
    """Whether any value is a complete schedule with air."""
    _check_air(state.net, air)
    if not is_task_list(state.net, value):
        return False
    course = AirCourse(state, air)
    for task in value:
        if not course.can_run(task):
            return False
        course.run(task)
    return course.is_over()


def air_keeping(state, air):
    """The tasks that can be run with air and behind which there is still a complete schedule with air, ascending."""
    if air_defect(state, air) is not None:
        return []
    course = AirCourse(state, air)
    return [task for task in range(len(state.net)) if course.can_keep(task)]


def _check_air(net, air):
    if not is_row(air) or not all([is_index(task, len(net)) for task in air]) or not is_ascending(air):
        raise InvalidAir(air)
    for task in air:
        ends = net.tasks[task]
        if len(ends) == 1 or any([minds for _, minds in ends]):
            raise InvalidAir(air)


def _touched(net, task):
    """All other tasks that have an end in common with a task."""
    ends = net.ends(task)
    return [other for other in range(len(net)) if other != task and any([node in ends for node in net.ends(other)])]


def _least_kept(course, count):
    """The least of so many tasks behind whose run all the rest can still be done."""
    for task in range(count):
        if course.can_keep(task):
            return task
    return None
