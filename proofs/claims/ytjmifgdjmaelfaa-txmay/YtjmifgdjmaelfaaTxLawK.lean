/-
  What the laws of transactions that come in have in common.
-/
import Derived.Test.YtjmifgdjmaelfaaTxAlive
import Derived.Test.YtjmifgdjmaelfaaTxGreat
import Derived.Test.YtjmifgdjmaelfaaTxCame
