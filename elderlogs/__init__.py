"""Elderlogs: long works that newer editions play again."""
