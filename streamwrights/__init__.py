"""Streamwrights: a workshop for translators of streams."""
