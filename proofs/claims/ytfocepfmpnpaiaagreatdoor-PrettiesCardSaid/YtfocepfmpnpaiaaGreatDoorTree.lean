import Derived.Test.YtfocepfmpnpaiaaGreatDoorYa4
set_option linter.all false
