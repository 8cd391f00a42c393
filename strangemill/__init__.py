"""Strangemill: a machine for rows from anybody."""
