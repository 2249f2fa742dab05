"""Shuntyard: wagons sorted on side tracks."""
