"""Loneseats: which rules of selling neighbouring seats leave seats that nobody can use."""
