"""Followsortable: the design of tables by dependencies."""
