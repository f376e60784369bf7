"""Belowall: a kernel in the small, right for all programs exactly if pairs of its steps stand in order."""
