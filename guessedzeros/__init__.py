"""Guessedzeros: a unit that reckons with floating numbers."""
