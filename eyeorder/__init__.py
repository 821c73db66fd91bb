"""Eyeorder: what an eye sees in a house of walls."""
