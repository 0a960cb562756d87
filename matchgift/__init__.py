"""Matchgift: who gives as much as the other has, and what can ever come of what."""
