"""Signscreen: a screen that obeys rows of signs, and the fewest rows that lead from one picture to another."""
