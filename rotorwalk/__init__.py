"""Rotorwalk: walkers on a web whose hands turn."""
