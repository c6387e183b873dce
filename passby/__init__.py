"""Passby: diaries of deeds, told alike or apart."""
