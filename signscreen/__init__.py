"""Signscreen: a screen that obeys rows of signs."""
