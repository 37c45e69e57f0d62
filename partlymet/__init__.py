"""Partlymet: programs whose pointers may meet."""
