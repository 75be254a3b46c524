"""Duepairs: tasks with dues for two workers, a plan or a derivation that there is none."""
