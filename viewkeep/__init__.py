"""Viewkeep: views of tables, kept as the tables change."""
