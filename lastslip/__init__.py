"""Lastslip: least automata on infinite words whose guesses are harmless."""
