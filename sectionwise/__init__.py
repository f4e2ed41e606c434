"""Sectionwise: sections of arrays, and storage that is shared."""
