"""Fewbrackets: reckonings written with no bracket too many."""
