"""Ringhue: hues by names alone, in few rounds."""
