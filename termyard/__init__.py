"""Termyard: terms that are turned by rules, and papers that two of them are alike."""
