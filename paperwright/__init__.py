"""Paperwright: an exact algebra house whose answers come with papers."""
