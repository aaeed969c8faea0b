"""Upvalues: a language of tables, closures and coroutines, walked and compiled."""
