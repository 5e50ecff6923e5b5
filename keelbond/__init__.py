"""Keelbond: who is paid out of a ship that came home."""
