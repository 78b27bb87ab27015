"""Truthtoll: dealings by told worths, at which nobody gains by telling another one."""
