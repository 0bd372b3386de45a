"""Twistyard: rows of numbers, what can put them in order, and the patterns that bar it."""
