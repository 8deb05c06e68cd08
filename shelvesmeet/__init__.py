"""Rising shelves of numbers: where they meet, and how they are looked at."""
