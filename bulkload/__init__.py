"""Loading rows into tables."""
