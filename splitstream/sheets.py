"""Sheets: the document tells nothing of them, so nothing stands here."""
