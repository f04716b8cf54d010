"""Wishedtongues: texts in many languages, for all wish lists."""
