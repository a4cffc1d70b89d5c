"""Kinddeeds: one name, many deeds by kind."""
