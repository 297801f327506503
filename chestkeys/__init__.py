"""Keys: which companies of officers may unlock a chest, and the locks and keys that do just that."""
