"""Jars of beans that are drawn two by two, and what the last bean can be."""
