"""The errors that this package raises."""


class JobError(ValueError):
    """Any error of this package."""


class NoJob(JobError):
    """An argument that is to be a job is none."""


class NoTask(JobError):
    """An argument that is to be a task is none."""


class NoHour(JobError):
    """An argument is not such a whole number as is asked for."""


class NoHours(JobError):
    """An argument is not such a list of hours as is asked for."""


class NoOrder(JobError):
    """An argument is not a list of all tasks, each once."""


class NoStatement(JobError):
    """An argument is not a statement of the job."""


class NotNarrow(JobError):
    """A job has an hour with room for three."""


class NoPlan(JobError):
    """A job has no plan."""


class Unlike(JobError):
    """Two jobs or boards have not equally many tasks."""


class NoRooms(JobError):
    """An argument is not such a list or tuple of rooms as is asked for."""


class NoDeeds(JobError):
    """An argument that is to be a list of deeds is no list."""


class BadNeed(JobError):
    """A need that cannot be put in or taken out.

    ring is the list of the tasks of the ring that the needs would make, or None.
    """

    def __init__(self, ring):
        super().__init__("a need that cannot be put in or taken out")
        self.ring = ring


class BadDeed(JobError):
    """A deed that cannot be done.

    place is its number, from 0, and kind the name of the error that it raised, or None.
    """

    def __init__(self, place, kind):
        super().__init__("a deed that cannot be done")
        self.place = place
        self.kind = kind


class NoText(JobError):
    """A text that cannot be read.

    line is the number, from 1, of the first line that cannot stand where it does.
    """

    def __init__(self, line):
        super().__init__("a text that cannot be read")
        self.line = line
