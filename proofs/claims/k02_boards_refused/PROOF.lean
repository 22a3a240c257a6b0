import PyProof.Rows.All
import Wide.All
import OpenK.AllK
import Wide.FinOn
import HandS.Base
import HandS.Call
import HandS.List
import HandS.Comp
import HandS.More
import HandS.Lambda
import HandS.ExcInit
import HandS.Dict
import HandS.Iter
import HandS.Text
import HandS.Walk
import HandS.Words
import HandS.Ends
import HandS.Deep
import HandS.TupAny
import HandS.IsInst
import HandS.Style
import HandS.Wide
import HandS.SortRule
import HandS.TupMul
import HandS.WordsList
import HandS.CallSlots
import HandS.ExcField
import HandS.ExcIs
import KE.KExcIs
import HandS.WordsExc
import HandS.EndTab
import PySem.Challenge.RW_wiresindark_k02_boards_refused
import PyProof.ReprLen
set_option Elab.async false
set_option linter.all false
set_option maxRecDepth 100000
set_option maxHeartbeats 4000000
/-! Rules that the layer lacks: operators that an own class defines, repr of data, a power of a great base. -/
namespace Wd
open PySem PySem.Spec PyProof.Rows L2
open L2 (St)

theorem cmpBackOf {P : Value → Shared → Prop} {z : V} {v : Value} {s' : Shared} (r : RelV z v) (h : P v s') : PySem.W.CmpBack P v s' := by
  cases z <;> first
    | (cases r; exact h)
    | (obtain ⟨t, e⟩ := r; cases e; exact h)

section
variable {X : Cx} {CX : CXT} {C g : Addr} {n : Nat} {sp : Sp} {E : XK}

/-- an instance as the library sees it -/
theorem instOf {pins : List (Addr × Obj)} {σ : L2.St} {H : Hp} {s : Shared} {a C dx : Addr} {fs : List (Str × V)} (I : Inv X pins σ H s) (e : H a = some (.ins C dx fs)) :
    ∃ od, PySem.W.InstAt s.heap a (PySem.W.instObj C dx) C (some od) := by
  obtain ⟨mA, O, _⟩ := ins_get I.hok e
  obtain ⟨od, J, _⟩ := O.look
  exact ⟨od, J⟩

/-- a def called by the machine itself, by positional values -/
theorem runR {pins : List (Addr × Obj)} {σ : L2.St} {H : Hp} {s : Shared} {Q : VK} {us : List Value} {vs : List V} {A : Around} (F : FnR X.prog X.w X.K X.mg X.base CX n g sp) (hr : Room n A) (hf : A.frames = X.A.frames) (hx : Passes CX X E)
    (I : Inv X pins σ H s) (r : Vals vs us) (h : sp vs H Q E) : wpAny (model X.prog X.w) A (call (.ref g) us) (EP X pins σ Q) X.xe s := by
  have e0 := I.env0
  have e1 : Env0 X.prog X.w X.K X.mg X.base A X.stack s H := ⟨hf.trans e0.frames, e0.mod, e0.bs, e0.bsz, e0.funs, e0.frf, e0.hok, e0.bare⟩
  refine wpAny_call (codeAny_mono (F A X.stack s H us vs Q E hr e1 r h) fun r s' hq => ?_)
  cases r with
  | error e => exact hx pins σ H s e s' I hq
  | ok fl =>
    cases fl <;> first
      | exact I.after hq
      | exact False.elim hq

/-- what an own class's special def must be -/
structure Spc (K : PySem.W.Frag) (C : Addr) (nm : Str) (g : Addr) : Prop where
  at_ : PySem.W.findIn K (.ref C) nm = some (some (.ref g))
  fn : PySem.W.isFn K (.ref g) = true

/-- x in o, by the class's own def -/
def rInOwn (C : Addr) (sp : Sp) (E : XK) : R2 := fun x y H Q => ∃ a dx fs, y = .ref a ∧ H a = some (.ins C dx fs) ∧ sp [y, x] H (fun z H' => ∃ b, z = .bl b ∧ Q (.bl b) H') E
theorem op_inOwn (hs : Spc X.K C "__contains__" g) (F : FnR X.prog X.w X.K X.mg X.base CX n g sp) (hr : Room n X.A) (hx : Passes CX X E) : OpR X (compareOp .In) (rInOwn C sp E) := by
  intro pins s σ H x y v u Q I rx ry h
  obtain ⟨a, dx, fs, rfl, ha, q⟩ := h
  cases (show u = Value.ref a from ry)
  obtain ⟨od, J⟩ := instOf I ha
  obtain ⟨m, hF⟩ := I.fr
  refine PySem.W.in_K hF I.ok.mod.kin J hs.at_ hs.fn ?_
  refine wpAny_mono (runR (us := [.ref a, v]) (vs := [.ref a, x]) F hr rfl hx I (.cons rfl (.cons rx .nil)) q) (fun w s' z => ?_) fun _ _ x => x
  obtain ⟨z', H', I', rz, b, rfl, qz⟩ := z
  cases (show w = Value.bool b from rz)
  exact wpAny_truthy_bool ⟨.bl b, H', I', rfl, qz⟩

/-- ~o, by the class's own def -/
def rInvOwn (C : Addr) (sp : Sp) (E : XK) : V → Hp → VK → Prop := fun x H Q => ∃ a dx fs, x = .ref a ∧ H a = some (.ins C dx fs) ∧ sp [x] H Q E
theorem un_invOwn (hs : Spc X.K C "__invert__" g) (F : FnR X.prog X.w X.K X.mg X.base CX n g sp) (hr : Room n X.A) (hx : Passes CX X E) : UnR X (unaryOp .Invert) (rInvOwn C sp E) := by
  intro pins s σ H x v Q I rx h
  obtain ⟨a, dx, fs, rfl, ha, q⟩ := h
  cases (show v = Value.ref a from rx)
  obtain ⟨od, J⟩ := instOf I ha
  obtain ⟨m, hF⟩ := I.fr
  exact PySem.W.ksp_inv hF I.ok.mod.kin J hs.at_ hs.fn (runR (us := [.ref a]) (vs := [.ref a]) F hr rfl hx I (.cons rfl .nil) q)

/-- len(o), by the class's own def -/
def rLenOwn (C : Addr) (sp : Sp) (E : XK) : List V → Hp → VK → Prop := fun xs H Q => ∃ a dx fs, xs = [.ref a] ∧ H a = some (.ins C dx fs) ∧ sp [.ref a] H (fun z H' => ∃ i : Int, z = .int i ∧ (0 ≤ i ∧ i < 2 ^ 63) ∧ Q (.int i) H') E
theorem call_lenOwn (hs : Spc X.K C "__len__" g) (F : FnR X.prog X.w X.K X.mg X.base CX n g sp) (hr : Room (n + 1) X.A) (hx : Passes CX X E) : CallR X (.builtin "len") (rLenOwn C sp E) := by
  intro pins s σ H xs us Q I r h
  obtain ⟨a, dx, fs, rfl, ha, q⟩ := h
  obtain ⟨u, rfl, ru⟩ := vals1 r
  cases (show u = Value.ref a from ru)
  obtain ⟨od, J⟩ := instOf I ha
  obtain ⟨m, hF⟩ := I.fr
  refine PySem.W.len_K hF I.ok.mod.kin J hs.at_ hs.fn ?_
  refine wpAny_mono (runR (us := [.ref a]) (vs := [.ref a]) F (Room.in1 hr) rfl hx I (.cons rfl .nil) q) (fun w s' z => ?_) fun _ _ x => x
  obtain ⟨z', H', I', rz, i, rfl, hb, qz⟩ := z
  obtain ⟨t, e⟩ := (show ∃ t, w = Value.int i t from rz)
  cases e
  exact ⟨hb, ⟨.int i, H', I'.tok _, ⟨_, rfl⟩, qz⟩⟩

/-- o == y, by the class's own def; y of any type that is not below the class -/
def rEqOwn (K : PySem.W.Frag) (C : Addr) (sp : Sp) (E : XK) : R2 := fun x y H Q => ∃ a dx fs t, x = .ref a ∧ H a = some (.ins C dx fs) ∧ TyOf K H y t ∧ PySem.W.notFirst K C t = true ∧ sp [x, y] H Q E
theorem tyLooks {pins : List (Addr × Obj)} {σ : L2.St} {H : Hp} {s : Shared} {y : V} {u t : Value} (I : Inv X pins σ H s) (ry : RelV y u) (ty : TyOf X.K H y t) : PySem.W.Looks (model X.prog X.w) s.heap (typeOf u) t := by
  cases ty with
  | non => cases (show u = Value.none from ry); exact PySem.W.Looks.of_pure rfl
  | bl b => cases (show u = Value.bool b from ry); exact PySem.W.Looks.of_pure rfl
  | int i => obtain ⟨t, e⟩ := (show ∃ t, u = Value.int i t from ry); cases e; exact PySem.W.Looks.of_pure rfl
  | str x => obtain ⟨t, e⟩ := (show ∃ t, u = Value.str x t from ry); cases e; exact PySem.W.Looks.of_pure rfl
  | flt x => obtain ⟨t, e⟩ := (show ∃ t, u = Value.float x t from ry); cases e; exact PySem.W.Looks.of_pure rfl
  | lst ea =>
    cases ry
    obtain ⟨_, _, _, _, h1⟩ := I.hok _ _ ea
    exact (PySem.W.Looks.ld h1).andThen .now
  | frz ea =>
    cases ry
    obtain ⟨_, _, _, _, _, h1⟩ := I.hok _ _ ea
    exact (PySem.W.Looks.ld h1).andThen .now
  | tup ea =>
    cases ry
    obtain ⟨_, _, _, o, h1, h2, _⟩ := I.hok _ _ ea
    obtain ⟨oc, od, dt, sl⟩ := o
    simp only at h2
    subst h2
    exact (PySem.W.Looks.ld h1).andThen .now
  | dK ea =>
    cases ry
    obtain ⟨_, _, vs, _, o, es, ep, h1, h2, _⟩ := I.hok _ _ ea
    have h3 := h2.1
    obtain ⟨oc, od, dt, sl⟩ := o
    simp only at h3
    subst h3
    exact (PySem.W.Looks.ld h1).andThen .now
  | dT ea =>
    cases ry
    obtain ⟨_, _, xs, _, o, es, ep, h1, h2, _⟩ := I.hok _ _ ea
    have h3 := h2.1
    obtain ⟨oc, od, dt, sl⟩ := o
    simp only at h3
    subst h3
    exact (PySem.W.Looks.ld h1).andThen .now
  | ins ea cl ha hn htk hm =>
    cases ry
    obtain ⟨od, J⟩ := instOf I ea
    exact J.type
theorem op_eqOwn (hs : Spc X.K C "__eq__" g) (F : FnR X.prog X.w X.K X.mg X.base CX n g sp) (hr : Room n X.A) (hx : Passes CX X E) : OpR X (compareOp .Eq) (rEqOwn X.K C sp E) := by
  intro pins s σ H x y v u Q I rx ry h
  obtain ⟨a, dx, fs, t, rfl, ha, ty, hn, q⟩ := h
  cases (show v = Value.ref a from rx)
  obtain ⟨od, J⟩ := instOf I ha
  obtain ⟨m, hF⟩ := I.fr
  have hcmp : compareOp .Eq (.ref a) u = richCompare .Eq (.ref a) u := rfl
  rw [hcmp]
  refine PySem.W.cmp_K (op := .Eq) hr.units0 hF I.ok.mod.kin J (tyLooks I ry ty) hn hs.at_ hs.fn ?_
  refine wpAny_mono (runR (us := [.ref a, u]) (vs := [.ref a, y]) F hr rfl hx I (.cons rfl (.cons ry .nil)) q) (fun w s' z => ?_) fun _ _ x => x
  obtain ⟨z', H', I', rz, qz⟩ := z
  exact cmpBackOf rz ⟨z', H', I', rz, qz⟩

/-- repr of data: none, bools, ints, texts, lists, tuples at any depth -/
def rReprD (K : PySem.W.Frag) : List V → Hp → VK → Prop := fun xs H Q => ∃ a d, xs = [.ref a] ∧ Dp K H (.ref a) d ∧ d.showable = true ∧ d.hasDict = false ∧ d.depth ≤ 60 ∧ d.shown.length ≤ sizeLine ∧ Q (.str d.shown) H
theorem call_reprD (hg : X.A.guards = some []) (hr : Room n X.A) : CallR X (.builtin "repr") (rReprD X.K) := by
  intro pins s σ H xs us Q I r h
  obtain ⟨a, d, rfl, hd, hs, hn, hdp, hz, q⟩ := h
  obtain ⟨u, rfl, ru⟩ := vals1 r
  have ru' := ru
  cases (show u = Value.ref a from ru)
  obtain ⟨as, rr⟩ := Dp.reads I d _ _ hd ru'
  refine repr_of_reads' rr hs (fun z => by rw [hn] at z; cases z) hg (by have := hr.units; omega) (fun b o e => e) (fun h' u tk hk => ?_) hz
  exact ⟨.str d.shown, H, I.kept (t' := tk) hk, ⟨_, rfl⟩, q⟩

/-- a ** b for greater a -/
def CPowW (i j : Int) : Prop := 0 ≤ j ∧ (Builtin.Int.intBits i : Int) * j ≤ 2 ^ 27
theorem op_powW : OpR X (binaryOp .Pow) (rI CPowW fun i j => .int (i ^ j.toNat)) := by
  intro pins s σ H x y v u Q I rx ry h
  obtain ⟨i, j, rfl, rfl, hc, q⟩ := h
  obtain ⟨t, rfl⟩ := (show ∃ t, v = Value.int i t from rx)
  obtain ⟨t', rfl⟩ := (show ∃ t', u = Value.int j t' from ry)
  exact pow_int hc.1 hc.2 ⟨.int _, H, I.tok _, ⟨_, rfl⟩, q⟩
end
end Wd
/-! Data, and what evaluates to which data: heaps stay hidden. -/
namespace Wd
open PySem L2

/-- what a value is, whatever its address -/
inductive D where
  | non
  | bl (b : Bool)
  | int (i : Int)
  | str (x : Str)
  | lst (ds : List D)
  | tup (ds : List D)
  | dic (es : List (Key × D))
  | scr (ds : List D)
  | obj (C : Addr) (gs : List (Str × D))
  | err (C : Addr) (gs : List (Str × D))

/-- at a: an exception's object of this class and own dict -/
def exv (a : Addr) (cls : Value) (d : Option Addr) : HO := .ext fun h => ∃ oe vs, h.get? a = some oe ∧ Zc cls d oe ∧ oe.data = .fields vs
/-- the tables of code objects that the law's lambdas want -/
class Tab where
  T : List (Addr × Str)
def Tbs [Tab] (H : Hp) : Prop := LamX.Tabs Tab.T H
/-- what a table, a code object is not -/
def NT (o : HO) : Prop := (∀ ps, o ≠ .tbl ps) ∧ ∀ c q, o ≠ LamX.CodeO c q
theorem nt_lst {xs : List V} : NT (.lst xs) := ⟨fun _ z => (nomatch z), fun c q z => by unfold LamX.CodeO at z; cases z⟩
theorem nt_ins {C dx : Addr} {fs : List (Str × V)} : NT (.ins C dx fs) := ⟨fun _ z => (nomatch z), fun c q z => by unfold LamX.CodeO at z; cases z⟩
theorem Tbs.new [Tab] {H : Hp} {p : Addr} {o : HO} (t : Tbs H) (e : H p = none) : Tbs (upd H p o) := LamX.Tabs.ext t fun b u q => by rw [upd_ne (ne_of_none q e)]; exact q
theorem Tbs.write [Tab] {H : Hp} {p : Addr} {o u : HO} (t : Tbs H) (e : H p = some u) (n : NT u) : Tbs (upd H p o) := fun x hx => by
  obtain ⟨ps, h1, h2, h3⟩ := t x hx
  refine ⟨ps, by rw [upd_ne (fun z => by rw [z, e] at h1; exact n.1 _ (Option.some.inj h1))]; exact h1, h2, fun pos cv hc => ?_⟩
  obtain ⟨c, e1, e2⟩ := h3 pos cv hc
  exact ⟨c, e1, by rw [upd_ne (fun z => by rw [z, e] at e2; exact n.2 _ _ (Option.some.inj e2))]; exact e2⟩
/-- no table -/
def TF (o : HO) : Prop := ∀ ps, o ≠ .tbl ps
/-- nothing is told of a, but perhaps a table -/
def Fre (H : Hp) (a : Addr) : Prop := ∀ o, H a = some o → ¬ TF o
theorem fre_of {H : Hp} {a : Addr} (h : H a = none) : Fre H a := fun o e => by rw [h] at e; cases e
theorem tf_lst {xs : List V} : TF (.lst xs) := fun _ z => nomatch z
theorem tf_ins {C dx : Addr} {fs : List (Str × V)} : TF (.ins C dx fs) := fun _ z => nomatch z
/-- what is known stands; so do the tables -/
structure Sb [Tab] (B H : Hp) : Prop where
  sm : Same B H
  tab : Tbs H
  nt : ∀ a ps, B a ≠ some (.tbl ps)
instance [Tab] {B H : Hp} : CoeFun (Sb B H) (fun _ => ∀ a o, B a = some o → H a = some o) := ⟨fun s => s.sm⟩

mutual
inductive Is (H : Hp) : V → D → Prop
  | non : Is H .non .non
  | bl (b : Bool) : Is H (.bl b) (.bl b)
  | int (i : Int) : Is H (.int i) (.int i)
  | str (x : Str) : Is H (.str x) (.str x)
  | lst {a : Addr} {xs : List V} {ds : List D} : H a = some (.lst xs) → IsA H xs ds → Is H (.ref a) (.lst ds)
  | tup {a : Addr} {xs : List V} {ds : List D} : H a = some (.tup xs) → IsA H xs ds → Is H (.ref a) (.tup ds)
  | scr {a : Addr} {xs : List V} {ds : List D} {o : Obj} : H a = some (.frz o (.lst xs)) → IsA H xs ds → Is H (.ref a) (.scr ds)
  | dic {a : Addr} {kvs : List (Key × V)} {es : List (Key × D)} : H a = some (.dK kvs) → IsK H kvs es → Is H (.ref a) (.dic es)
  | obj {a C dx : Addr} {fs : List (Str × V)} {gs : List (Str × D)} : H a = some (.ins C dx fs) → IsF H fs gs → Is H (.ref a) (.obj C gs)
  | err {a C dd : Addr} {fs : List (Str × V)} {gs : List (Str × D)} : H a = some (exv a (.ref C) (some dd)) → H dd = some (.xd fs) → IsF H fs gs → Is H (.ref a) (.err C gs)
inductive IsA (H : Hp) : List V → List D → Prop
  | nil : IsA H [] []
  | cons {v : V} {d : D} {vs : List V} {ds : List D} : Is H v d → IsA H vs ds → IsA H (v :: vs) (d :: ds)
inductive IsK (H : Hp) : List (Key × V) → List (Key × D) → Prop
  | nil : IsK H [] []
  | cons {k : Key} {v : V} {d : D} {vs : List (Key × V)} {ds : List (Key × D)} : Is H v d → IsK H vs ds → IsK H ((k, v) :: vs) ((k, d) :: ds)
inductive IsF (H : Hp) : List (Str × V) → List (Str × D) → Prop
  | nil : IsF H [] []
  | cons {k : Str} {v : V} {d : D} {vs : List (Str × V)} {ds : List (Str × D)} : Is H v d → IsF H vs ds → IsF H ((k, v) :: vs) ((k, d) :: ds)
end

section
variable {H H' : Hp}
mutual
theorem Is.mono (e : Same H H') : ∀ {v : V} {d : D}, Is H v d → Is H' v d
  | _, _, .non => .non
  | _, _, .bl b => .bl b
  | _, _, .int i => .int i
  | _, _, .str x => .str x
  | _, _, .lst h q => .lst (e _ _ h) (IsA.mono e q)
  | _, _, .tup h q => .tup (e _ _ h) (IsA.mono e q)
  | _, _, .scr h q => .scr (e _ _ h) (IsA.mono e q)
  | _, _, .dic h q => .dic (e _ _ h) (IsK.mono e q)
  | _, _, .obj h q => .obj (e _ _ h) (IsF.mono e q)
  | _, _, .err h g q => .err (e _ _ h) (e _ _ g) (IsF.mono e q)
theorem IsA.mono (e : Same H H') : ∀ {v : List V} {d : List D}, IsA H v d → IsA H' v d
  | _, _, .nil => .nil
  | _, _, .cons h q => .cons (Is.mono e h) (IsA.mono e q)
theorem IsK.mono (e : Same H H') : ∀ {v : List (Key × V)} {d : List (Key × D)}, IsK H v d → IsK H' v d
  | _, _, .nil => .nil
  | _, _, .cons h q => .cons (Is.mono e h) (IsK.mono e q)
theorem IsF.mono (e : Same H H') : ∀ {v : List (Str × V)} {d : List (Str × D)}, IsF H v d → IsF H' v d
  | _, _, .nil => .nil
  | _, _, .cons h q => .cons (Is.mono e h) (IsF.mono e q)
end
theorem IsA.length : ∀ {vs : List V} {ds : List D}, IsA H vs ds → vs.length = ds.length
  | _, _, .nil => rfl
  | _, _, .cons _ q => congrArg (· + 1) q.length
theorem IsA.get : ∀ {vs : List V} {ds : List D} {i : Nat} {v : V}, IsA H vs ds → vs[i]? = some v → ∃ d, ds[i]? = some d ∧ Is H v d
  | _, _, i, v, .nil, e => by simp at e
  | _, _, 0, v, .cons h q, e => by simp at e; subst e; exact ⟨_, rfl, h⟩
  | _, _, i + 1, v, .cons h q, e => by
    obtain ⟨d, h1, h2⟩ := IsA.get (i := i) q (by simpa using e)
    exact ⟨d, by simpa using h1, h2⟩
theorem IsA.at : ∀ {vs : List V} {ds : List D} {i : Nat} {d : D}, IsA H vs ds → ds[i]? = some d → ∃ v, vs[i]? = some v ∧ Is H v d
  | _, _, i, v, .nil, e => by simp at e
  | _, _, 0, v, .cons h q, e => by simp at e; subst e; exact ⟨_, rfl, h⟩
  | _, _, i + 1, v, .cons h q, e => by
    obtain ⟨d, h1, h2⟩ := IsA.at (i := i) q (by simpa using e)
    exact ⟨d, by simpa using h1, h2⟩
theorem IsA.append : ∀ {xs ys : List V} {as bs : List D}, IsA H xs as → IsA H ys bs → IsA H (xs ++ ys) (as ++ bs)
  | _, _, _, _, .nil, s => s
  | _, _, _, _, .cons h t, s => .cons h (IsA.append t s)
theorem IsA.set {v : V} {d : D} (h : Is H v d) : ∀ {vs : List V} {ds : List D} (i : Nat), IsA H vs ds → IsA H (vs.set i v) (ds.set i d)
  | _, _, _, .nil => .nil
  | _, _, 0, .cons _ t => .cons h t
  | _, _, i + 1, .cons q t => .cons q (IsA.set h i t)
theorem IsA.take : ∀ {xs : List V} {as : List D} (n : Nat), IsA H xs as → IsA H (xs.take n) (as.take n)
  | _, _, 0, _ => .nil
  | _, _, n + 1, .nil => .nil
  | _, _, n + 1, .cons h t => .cons h (IsA.take n t)
theorem IsA.drop : ∀ {xs : List V} {as : List D} (n : Nat), IsA H xs as → IsA H (xs.drop n) (as.drop n)
  | _, _, 0, h => h
  | _, _, n + 1, .nil => .nil
  | _, _, n + 1, .cons h t => IsA.drop n t
theorem IsA.one {v : V} {d : D} (h : Is H v d) : IsA H [v] [d] := .cons h .nil
theorem IsF.lookup {f : Str} {d : D} : ∀ {fs : List (Str × V)} {gs : List (Str × D)}, IsF H fs gs → gs.lookup f = some d → ∃ v, fs.lookup f = some v ∧ Is H v d
  | _, _, .nil, e => by cases e
  | _, _, .cons (k := k) h q, e => by
    rw [List.lookup_cons] at e
    rw [List.lookup_cons]
    cases hk : (f == k) with
    | true => rw [hk] at e; cases e; exact ⟨_, rfl, h⟩
    | false => rw [hk] at e; exact IsF.lookup q e
theorem IsF.none {f : Str} : ∀ {fs : List (Str × V)} {gs : List (Str × D)}, IsF H fs gs → gs.lookup f = none → fs.lookup f = none
  | _, _, .nil, e => rfl
  | _, _, .cons (k := k) h q, e => by
    rw [List.lookup_cons] at e
    rw [List.lookup_cons]
    cases hk : (f == k) with
    | true => rw [hk] at e; cases e
    | false => rw [hk] at e; exact IsF.none q e
theorem IsF.length : ∀ {vs : List (Str × V)} {ds : List (Str × D)}, IsF H vs ds → vs.length = ds.length
  | _, _, .nil => rfl
  | _, _, .cons _ q => congrArg (· + 1) q.length
/-- a field put -/
def putG (f : Str) (d : D) : List (Str × D) → List (Str × D)
  | [] => [(f, d)]
  | (k, e) :: r => if k = f then (k, d) :: r else (k, e) :: putG f d r
end

theorem same_trans {A B C : Hp} (a : Same A B) (b : Same B C) : Same A C := Same.trans a b

/-- a step: the known part grows, what is not in S stays -/
structure Stp [Tab] (S : Addr → Prop) (B H B' H' : Hp) : Prop where
  up : Same B B'
  inn : Sb B' H'
  fr : ∀ a o, ¬ S a → H a = some o → TF o → H' a = some o
  kp : ∀ a o, H a = some o → TF o → ∃ o', H' a = some o' ∧ TF o'
  nw : ∀ a o, B' a = some o → B a = some o ∨ Fre H a ∨ S a
abbrev Stp0 [Tab] (B H B' H' : Hp) : Prop := Stp (fun _ => False) B H B' H'
section
variable [Tab] {S S1 : Addr → Prop} {B H B1 H1 B2 H2 : Hp} {p : Addr} {o u : HO}
theorem Stp.refl (h : Sb B H) : Stp S B H B H := ⟨Same.refl _, h, fun _ _ _ e _ => e, fun _ o e n => ⟨o, e, n⟩, fun _ _ e => .inl e⟩
theorem Stp.fresh (a : Stp S B H B1 H1) {x : Addr} (h : Fre H1 x) : Fre H x := fun o e n => by
  obtain ⟨o', e', n'⟩ := a.kp x o e n
  exact h o' e' n'
theorem Stp.trans (a : Stp S B H B1 H1) (b : Stp S1 B1 H1 B2 H2) (hs : ∀ a, S1 a → S a ∨ Fre H a) : Stp S B H B2 H2 where
  up := a.up.trans b.up
  inn := b.inn
  fr := fun x o hx e n => b.fr x o (fun z => (hs x z).elim hx fun q => q o e n) (a.fr x o hx e n) n
  kp := fun x o e n => by
    obtain ⟨o', e', n'⟩ := a.kp x o e n
    exact b.kp x o' e' n'
  nw := fun x o e => by
    rcases b.nw x o e with h | h | h
    · exact a.nw x o h
    · exact .inr (.inl (a.fresh h))
    · rcases hs x h with h | h
      · exact .inr (.inr h)
      · exact .inr (.inl h)
theorem Stp.mono (a : Stp S B H B1 H1) (hs : ∀ a, S a → S1 a) : Stp S1 B H B1 H1 :=
  ⟨a.up, a.inn, fun x o hx e n => a.fr x o (fun z => hx (hs x z)) e n, a.kp, fun x o e => (a.nw x o e).imp id (Or.imp id (hs x))⟩
theorem Stp.zero (a : Stp0 B H B1 H1) : Stp S B H B1 H1 := a.mono fun _ z => z.elim
theorem Stp.trans0 (a : Stp S B H B1 H1) (b : Stp0 B1 H1 B2 H2) : Stp S B H B2 H2 := a.trans b fun _ z => z.elim
theorem free_of (h : Sb B H) (e : H p = none) : B p = none := h.sm.free e
theorem Same.upd (h : Same B H) (e : H p = none) : Same (upd B p o) (upd H p o) := fun a u q => by
  by_cases ha : a = p
  · subst ha; rw [upd_same] at q ⊢; exact q
  · rw [upd_ne ha] at q ⊢; exact h a u q
theorem nt_upd (h : ∀ a ps, B a ≠ some (.tbl ps)) (ho : ∀ ps, o ≠ .tbl ps) : ∀ a ps, (L2.upd B p o) a ≠ some (.tbl ps) := fun a ps q => by
  by_cases ha : a = p
  · subst ha; rw [upd_same] at q; exact ho ps (Option.some.inj q)
  · rw [upd_ne ha] at q; exact h a ps q
theorem Sb.upd (h : Sb B H) (e : H p = none) (ho : ∀ ps, o ≠ .tbl ps) : Sb (upd B p o) (upd H p o) := ⟨Same.upd h.sm e, h.tab.new e, nt_upd h.nt ho⟩
theorem Sb.new (h : Sb B H) (e : H p = none) : Sb B (L2.upd H p o) := ⟨fun a u q => by rw [upd_ne (ne_of_none q (free_of h e))]; exact h a u q, h.tab.new e, h.nt⟩
/-- a new known object -/
theorem Stp.new (h : Sb B H) (e : H p = none) (ho : ∀ ps, o ≠ .tbl ps := by intro ps z; cases z) : Stp S B H (upd B p o) (upd H p o) where
  up := fun a u q => by rw [upd_ne (ne_of_none q (free_of h e))]; exact q
  inn := h.upd e ho
  fr := fun a u _ q _ => by rw [upd_ne (ne_of_none q e)]; exact q
  kp := fun a u q n => ⟨u, by rw [upd_ne (ne_of_none q e)]; exact q, n⟩
  nw := fun a u q => by
    by_cases ha : a = p
    · subst ha; exact .inr (.inl (fre_of e))
    · rw [upd_ne ha] at q; exact .inl q
/-- a new object that stays apart -/
theorem Stp.apart (h : Sb B H) (e : H p = none) : Stp S B H B (upd H p o) where
  up := Same.refl _
  inn := h.new e
  fr := fun a u _ q _ => by rw [upd_ne (ne_of_none q e)]; exact q
  kp := fun a u q n => ⟨u, by rw [upd_ne (ne_of_none q e)]; exact q, n⟩
  nw := fun a u q => .inl q
/-- an object of S changes -/
theorem Stp.write (h : Sb B H) (hp : S p) (hb : B p = none) (hu : H p = some u) (nt : NT u) (ho : TF o := by intro ps z; cases z) : Stp S B H B (upd H p o) where
  up := Same.refl _
  inn := ⟨fun a u q => by rw [upd_ne (ne_of_none q hb)]; exact h a u q, h.tab.write hu nt, h.nt⟩
  fr := fun a u hn q _ => by
    by_cases ha : a = p
    · subst ha; exact absurd hp hn
    · rw [upd_ne ha]; exact q
  kp := fun a v q n => by
    by_cases ha : a = p
    · subst ha; exact ⟨o, upd_same, ho⟩
    · exact ⟨v, by rw [upd_ne ha]; exact q, n⟩
  nw := fun a u q => .inl q
end

/-- what a slot holds -/
inductive Slo where
  | no
  | dat (d : D)
  | mls (ds : List D)
  | mob (C : Addr) (gs : List (Str × D))
def Slo.mut : Slo → Bool
  | .mls _ => true
  | .mob _ _ => true
  | _ => false

/-- the addresses of the slots that may change -/
def Mu (σ : L2.St) (ε : List Slo) (a : Addr) : Prop := ∃ (i : Nat) (e : Slo), ε[i]? = some e ∧ e.mut = true ∧ σ[i]? = some (some (.ref a))
structure Knw [Tab] (B H : Hp) (σ : L2.St) (ε : List Slo) : Prop where
  sub : Sb B H
  len : ε.length = σ.length
  dat : ∀ (i : Nat) (d : D), ε[i]? = some (.dat d) → ∃ v, σ[i]? = some (some v) ∧ Is B v d
  mls : ∀ (i : Nat) (ds : List D), ε[i]? = some (.mls ds) → ∃ l vs, σ[i]? = some (some (.ref l)) ∧ B l = none ∧ H l = some (.lst vs) ∧ IsA B vs ds
  mob : ∀ (i : Nat) (C : Addr) (gs : List (Str × D)), ε[i]? = some (.mob C gs) → ∃ l dx fs, σ[i]? = some (some (.ref l)) ∧ B l = none ∧ H l = some (.ins C dx fs) ∧ IsF B fs gs
  apart : ∀ (i j : Nat) (e e' : Slo) (l : Addr), i ≠ j → ε[i]? = some e → e.mut = true → ε[j]? = some e' → e'.mut = true → σ[i]? = some (some (.ref l)) → σ[j]? ≠ some (some (.ref l))

section
variable [Tab] {B H B' H' : Hp} {σ : L2.St} {ε ε' : List Slo}
theorem Knw.mut_free (v : Knw B H σ ε) {a : Addr} (h : Mu σ ε a) : B a = none ∧ H a ≠ none := by
  obtain ⟨i, e, h1, h2, h3⟩ := h
  cases e with
  | no => cases h2
  | dat d => cases h2
  | mls ds =>
    obtain ⟨l, vs, q1, q2, q3, _⟩ := v.mls i ds h1
    rw [h3] at q1
    cases q1
    exact ⟨q2, by rw [q3]; simp⟩
  | mob C gs =>
    obtain ⟨l, dx, fs, q1, q2, q3, _⟩ := v.mob i C gs h1
    rw [h3] at q1
    cases q1
    exact ⟨q2, by rw [q3]; simp⟩
/-- a step that touches no changing slot -/
theorem Knw.step0 (v : Knw B H σ ε) (s : Stp0 B H B' H') : Knw B' H' σ ε where
  sub := s.inn
  len := v.len
  dat := fun i d h => by
    obtain ⟨x, h1, h2⟩ := v.dat i d h
    exact ⟨x, h1, h2.mono s.up⟩
  mls := fun i ds h => by
    obtain ⟨l, vs, h1, h2, h3, h4⟩ := v.mls i ds h
    refine ⟨l, vs, h1, ?_, s.fr l _ id h3 (by first | exact tf_lst | exact tf_ins), h4.mono s.up⟩
    cases q : B' l with
    | none => rfl
    | some o =>
      rcases s.nw l o q with z | z | z
      · rw [h2] at z; cases z
      · exact absurd (by first | exact tf_lst | exact tf_ins) (z _ h3)
      · exact z.elim
  mob := fun i C gs h => by
    obtain ⟨l, dx, fs, h1, h2, h3, h4⟩ := v.mob i C gs h
    refine ⟨l, dx, fs, h1, ?_, s.fr l _ id h3 (by first | exact tf_lst | exact tf_ins), h4.mono s.up⟩
    cases q : B' l with
    | none => rfl
    | some o =>
      rcases s.nw l o q with z | z | z
      · rw [h2] at z; cases z
      · exact absurd (by first | exact tf_lst | exact tf_ins) (z _ h3)
      · exact z.elim
  apart := v.apart
/-- one changing slot, a list, gets another content -/
theorem Knw.wrote (v : Knw B H σ ε) {i : Nat} {ds : List D} {l : Addr} {ws : List V} {es : List D} (hi : ε[i]? = some (.mls ds)) (hl : σ[i]? = some (some (.ref l)))
    (s : Stp (· = l) B H B' H') (hb : B' l = none) (hw : H' l = some (.lst ws)) (hd : IsA B' ws es) : Knw B' H' σ (ε.set i (.mls es)) where
  sub := s.inn
  len := by rw [List.length_set]; exact v.len
  dat := fun j d h => by
    by_cases hj : i = j
    · subst hj
      obtain ⟨hlt, _⟩ := List.getElem?_eq_some_iff.mp hi
      rw [List.getElem?_set_self hlt] at h; cases h
    · rw [List.getElem?_set_ne hj] at h
      obtain ⟨x, h1, h2⟩ := v.dat j d h
      exact ⟨x, h1, h2.mono s.up⟩
  mls := fun j cs h => by
    by_cases hj : i = j
    · subst hj
      obtain ⟨hlt, _⟩ := List.getElem?_eq_some_iff.mp hi
      rw [List.getElem?_set_self hlt] at h
      cases h
      exact ⟨l, ws, hl, hb, hw, hd⟩
    · rw [List.getElem?_set_ne hj] at h
      obtain ⟨m, vs, h1, h2, h3, h4⟩ := v.mls j cs h
      have hne : m ≠ l := fun z => by subst z; exact v.apart i j _ _ m hj hi rfl h rfl hl h1
      refine ⟨m, vs, h1, ?_, s.fr m _ hne h3 (by first | exact tf_lst | exact tf_ins), h4.mono s.up⟩
      cases q : B' m with
      | none => rfl
      | some o =>
        rcases s.nw m o q with z | z | z
        · rw [h2] at z; cases z
        · exact absurd (by first | exact tf_lst | exact tf_ins) (z _ h3)
        · exact absurd z hne
  mob := fun j C gs h => by
    by_cases hj : i = j
    · subst hj
      obtain ⟨hlt, _⟩ := List.getElem?_eq_some_iff.mp hi
      rw [List.getElem?_set_self hlt] at h; cases h
    · rw [List.getElem?_set_ne hj] at h
      obtain ⟨m, dx, fs, h1, h2, h3, h4⟩ := v.mob j C gs h
      have hne : m ≠ l := fun z => by subst z; exact v.apart i j _ _ m hj hi rfl h rfl hl h1
      refine ⟨m, dx, fs, h1, ?_, s.fr m _ hne h3 (by first | exact tf_lst | exact tf_ins), h4.mono s.up⟩
      cases q : B' m with
      | none => rfl
      | some o =>
        rcases s.nw m o q with z | z | z
        · rw [h2] at z; cases z
        · exact absurd (by first | exact tf_lst | exact tf_ins) (z _ h3)
        · exact absurd z hne
  apart := fun j k e e' m hjk h1 h2 h3 h4 h5 => by
    have fix : ∀ {j : Nat} {e : Slo}, (ε.set i (.mls es))[j]? = some e → e.mut = true → ∃ e0, ε[j]? = some e0 ∧ e0.mut = true := fun {j e} h hm => by
      by_cases hj : i = j
      · subst hj; exact ⟨_, hi, rfl⟩
      · rw [List.getElem?_set_ne hj] at h; exact ⟨_, h, hm⟩
    obtain ⟨e0, q1, q2⟩ := fix h1 h2
    obtain ⟨e1, q3, q4⟩ := fix h3 h4
    exact v.apart j k e0 e1 m hjk q1 q2 q3 q4 h5
/-- one changing slot, an object under way, gets another content -/
theorem Knw.wroteO (v : Knw B H σ ε) {i : Nat} {C : Addr} {gs gs' : List (Str × D)} {l dx : Addr} {fs : List (Str × V)} (hi : ε[i]? = some (.mob C gs)) (hl : σ[i]? = some (some (.ref l)))
    (s : Stp (· = l) B H B' H') (hb : B' l = none) (hw : H' l = some (.ins C dx fs)) (hd : IsF B' fs gs') : Knw B' H' σ (ε.set i (.mob C gs')) where
  sub := s.inn
  len := by rw [List.length_set]; exact v.len
  dat := fun j d h => by
    by_cases hj : i = j
    · subst hj
      obtain ⟨hlt, _⟩ := List.getElem?_eq_some_iff.mp hi
      rw [List.getElem?_set_self hlt] at h; cases h
    · rw [List.getElem?_set_ne hj] at h
      obtain ⟨x, h1, h2⟩ := v.dat j d h
      exact ⟨x, h1, h2.mono s.up⟩
  mob := fun j C' gs2 h => by
    by_cases hj : i = j
    · subst hj
      obtain ⟨hlt, _⟩ := List.getElem?_eq_some_iff.mp hi
      rw [List.getElem?_set_self hlt] at h
      cases h
      exact ⟨l, dx, fs, hl, hb, hw, hd⟩
    · rw [List.getElem?_set_ne hj] at h
      obtain ⟨m, dy, vs, h1, h2, h3, h4⟩ := v.mob j C' gs2 h
      have hne : m ≠ l := fun z => by subst z; exact v.apart i j _ _ m hj hi rfl h rfl hl h1
      refine ⟨m, dy, vs, h1, ?_, s.fr m _ hne h3 (by first | exact tf_lst | exact tf_ins), h4.mono s.up⟩
      cases q : B' m with
      | none => rfl
      | some o =>
        rcases s.nw m o q with z | z | z
        · rw [h2] at z; cases z
        · exact absurd (by first | exact tf_lst | exact tf_ins) (z _ h3)
        · exact absurd z hne
  mls := fun j gs2 h => by
    by_cases hj : i = j
    · subst hj
      obtain ⟨hlt, _⟩ := List.getElem?_eq_some_iff.mp hi
      rw [List.getElem?_set_self hlt] at h; cases h
    · rw [List.getElem?_set_ne hj] at h
      obtain ⟨m, vs, h1, h2, h3, h4⟩ := v.mls j gs2 h
      have hne : m ≠ l := fun z => by subst z; exact v.apart i j _ _ m hj hi rfl h rfl hl h1
      refine ⟨m, vs, h1, ?_, s.fr m _ hne h3 (by first | exact tf_lst | exact tf_ins), h4.mono s.up⟩
      cases q : B' m with
      | none => rfl
      | some o =>
        rcases s.nw m o q with z | z | z
        · rw [h2] at z; cases z
        · exact absurd (by first | exact tf_lst | exact tf_ins) (z _ h3)
        · exact absurd z hne
  apart := fun j k e e' m hjk h1 h2 h3 h4 h5 => by
    have fix : ∀ {j : Nat} {e : Slo}, (ε.set i (.mob C gs'))[j]? = some e → e.mut = true → ∃ e0, ε[j]? = some e0 ∧ e0.mut = true := fun {j e} h hm => by
      by_cases hj : i = j
      · subst hj; exact ⟨_, hi, rfl⟩
      · rw [List.getElem?_set_ne hj] at h; exact ⟨_, h, hm⟩
    obtain ⟨e0, q1, q2⟩ := fix h1 h2
    obtain ⟨e1, q3, q4⟩ := fix h3 h4
    exact v.apart j k e0 e1 m hjk q1 q2 q3 q4 h5
/-- a slot is stored -/
theorem Knw.set_dat (v : Knw B H σ ε) {i : Nat} {x : V} {d : D} (h : Is B x d) : Knw B H (σ.set i (some x)) (ε.set i (.dat d)) where
  sub := v.sub
  len := by rw [List.length_set, List.length_set]; exact v.len
  dat := fun j e hj => by
    by_cases hi : i = j
    · subst hi
      by_cases hlt : i < ε.length
      · rw [List.getElem?_set_self hlt] at hj
        cases hj
        exact ⟨x, by rw [List.getElem?_set_self (v.len ▸ hlt)], h⟩
      · rw [List.getElem?_eq_none (by rw [List.length_set]; omega)] at hj; cases hj
    · rw [List.getElem?_set_ne hi] at hj ⊢
      exact v.dat j e hj
  mls := fun j e hj => by
    by_cases hi : i = j
    · subst hi
      by_cases hlt : i < ε.length
      · rw [List.getElem?_set_self hlt] at hj; cases hj
      · rw [List.getElem?_eq_none (by rw [List.length_set]; omega)] at hj; cases hj
    · rw [List.getElem?_set_ne hi] at hj ⊢
      exact v.mls j e hj
  mob := fun j C e hj => by
    by_cases hi : i = j
    · subst hi
      by_cases hlt : i < ε.length
      · rw [List.getElem?_set_self hlt] at hj; cases hj
      · rw [List.getElem?_eq_none (by rw [List.length_set]; omega)] at hj; cases hj
    · rw [List.getElem?_set_ne hi] at hj ⊢
      exact v.mob j C e hj
  apart := fun j k e e' m hjk h1 h2 h3 h4 h5 => by
    have fix : ∀ {j : Nat} {e : Slo}, (ε.set i (.dat d))[j]? = some e → e.mut = true → i ≠ j ∧ ε[j]? = some e := fun {j e} h hm => by
      by_cases hj : i = j
      · subst hj
        by_cases hlt : i < ε.length
        · rw [List.getElem?_set_self hlt] at h; cases h; cases hm
        · rw [List.getElem?_eq_none (by rw [List.length_set]; omega)] at h; cases h
      · rw [List.getElem?_set_ne hj] at h; exact ⟨hj, h⟩
    obtain ⟨n1, q1⟩ := fix h1 h2
    obtain ⟨n2, q2⟩ := fix h3 h4
    rw [List.getElem?_set_ne n1] at h5
    rw [List.getElem?_set_ne n2]
    exact v.apart j k e e' m hjk q1 h2 q2 h4 h5
/-- a slot gets a new list that stays apart -/
theorem Knw.set_mls (v : Knw B H σ ε) {i : Nat} {p : Addr} {vs : List V} {ds : List D} (hp : H p = none) (h : IsA B vs ds) : Knw B (upd H p (.lst vs)) (σ.set i (some (.ref p))) (ε.set i (.mls ds)) := by
  have hb := free_of v.sub hp
  have old : ∀ {l : Addr} {o : HO}, H l = some o → upd H p (.lst vs) l = some o := fun {l o} e => by rw [upd_ne (ne_of_none e hp)]; exact e
  refine ⟨v.sub.new hp, by rw [List.length_set, List.length_set]; exact v.len, fun j e hj => ?_, fun j e hj => ?_, fun j C e hj => ?_, fun j k e e' m hjk h1 h2 h3 h4 h5 => ?_⟩
  · by_cases hi : i = j
    · subst hi
      by_cases hlt : i < ε.length
      · rw [List.getElem?_set_self hlt] at hj; cases hj
      · rw [List.getElem?_eq_none (by rw [List.length_set]; omega)] at hj; cases hj
    · rw [List.getElem?_set_ne hi] at hj ⊢
      exact v.dat j e hj
  · by_cases hi : i = j
    · subst hi
      by_cases hlt : i < ε.length
      · rw [List.getElem?_set_self hlt] at hj
        cases hj
        exact ⟨p, vs, by rw [List.getElem?_set_self (v.len ▸ hlt)], hb, upd_same, h⟩
      · rw [List.getElem?_eq_none (by rw [List.length_set]; omega)] at hj; cases hj
    · rw [List.getElem?_set_ne hi] at hj ⊢
      obtain ⟨l, ws, q1, q2, q3, q4⟩ := v.mls j e hj
      exact ⟨l, ws, q1, q2, old q3, q4⟩
  · by_cases hi : i = j
    · subst hi
      by_cases hlt : i < ε.length
      · rw [List.getElem?_set_self hlt] at hj; cases hj
      · rw [List.getElem?_eq_none (by rw [List.length_set]; omega)] at hj; cases hj
    · rw [List.getElem?_set_ne hi] at hj ⊢
      obtain ⟨l, dx, ws, q1, q2, q3, q4⟩ := v.mob j C e hj
      exact ⟨l, dx, ws, q1, q2, old q3, q4⟩
  · have fix : ∀ {j : Nat} {e : Slo}, (ε.set i (.mls ds))[j]? = some e → e.mut = true → (i = j ∧ i < ε.length) ∨ (i ≠ j ∧ ε[j]? = some e) := fun {j e} h hm => by
      by_cases hj : i = j
      · subst hj
        by_cases hlt : i < ε.length
        · exact .inl ⟨rfl, hlt⟩
        · rw [List.getElem?_eq_none (by rw [List.length_set]; omega)] at h; cases h
      · rw [List.getElem?_set_ne hj] at h; exact .inr ⟨hj, h⟩
    have oldM : ∀ {j : Nat} {e : Slo}, ε[j]? = some e → e.mut = true → σ[j]? ≠ some (some (.ref p)) := fun {j e} q1 q2 q3 => (v.mut_free ⟨j, e, q1, q2, q3⟩).2 hp
    rcases fix h1 h2 with ⟨rfl, hlt⟩ | ⟨n1, q1⟩
    · rcases fix h3 h4 with ⟨rfl, _⟩ | ⟨n2, q2⟩
      · exact absurd rfl hjk
      · rw [List.getElem?_set_self (v.len ▸ hlt)] at h5
        cases h5
        rw [List.getElem?_set_ne n2]
        exact oldM q2 h4
    · rw [List.getElem?_set_ne n1] at h5
      rcases fix h3 h4 with ⟨rfl, hlt⟩ | ⟨n2, q2⟩
      · rw [List.getElem?_set_self (v.len ▸ hlt)]
        intro z
        cases z
        exact oldM q1 h2 h5
      · rw [List.getElem?_set_ne n2]
        exact v.apart j k e e' m hjk q1 h2 q2 h4 h5
/-- what one no longer cares for -/
def Le (ε' ε : List Slo) : Prop := ε'.length = ε.length ∧ ∀ (i : Nat) (e : Slo), ε'[i]? = some e → e = .no ∨ ε[i]? = some e
theorem Knw.weak (v : Knw B H σ ε) (h : Le ε' ε) : Knw B H σ ε' where
  sub := v.sub
  len := h.1.trans v.len
  dat := fun i d q => (h.2 i _ q).elim (fun z => nomatch z) (v.dat i d)
  mls := fun i d q => (h.2 i _ q).elim (fun z => nomatch z) (v.mls i d)
  mob := fun i C d q => (h.2 i _ q).elim (fun z => nomatch z) (v.mob i C d)
  apart := fun i j e e' l hij h1 h2 h3 h4 => v.apart i j e e' l hij ((h.2 i _ h1).elim (fun z => by subst z; cases h2) id) h2 ((h.2 j _ h3).elim (fun z => by subst z; cases h4) id) h4
theorem Le.refl (ε : List Slo) : Le ε ε := ⟨rfl, fun _ _ h => .inr h⟩
theorem Le.mu (h : Le ε' ε) {a : Addr} (m : Mu σ ε' a) : Mu σ ε a := by
  obtain ⟨i, e, h1, h2, h3⟩ := m
  rcases h.2 i e h1 with z | z
  · subst z; cases h2
  · exact ⟨i, e, z, h2, h3⟩
/-- a list that will not change any more -/
theorem Knw.freeze (v : Knw B H σ ε) {i : Nat} {ds : List D} (hi : ε[i]? = some (.mls ds)) :
    ∃ l B', σ[i]? = some (some (.ref l)) ∧ Mu σ ε l ∧ Stp (Mu σ ε) B H B' H ∧ Knw B' H σ (ε.set i (.dat (.lst ds))) ∧ Is B' (.ref l) (.lst ds) := by
  obtain ⟨l, vs, h1, h2, h3, h4⟩ := v.mls i ds hi
  have hlt : i < ε.length := (List.getElem?_eq_some_iff.mp hi).1
  have up : Same B (upd B l (.lst vs)) := fun a o q => by rw [upd_ne (ne_of_none q h2)]; exact q
  have inn : Sb (upd B l (.lst vs)) H := ⟨fun a o q => by
    by_cases ha : a = l
    · subst ha; rw [upd_same] at q; rw [h3]; exact q
    · rw [upd_ne ha] at q; exact v.sub a o q, v.sub.tab, nt_upd v.sub.nt (by intro ps z; cases z)⟩
  have hm : Mu σ ε l := ⟨i, _, hi, rfl, h1⟩
  have hI : Is (upd B l (.lst vs)) (.ref l) (.lst ds) := .lst upd_same (h4.mono up)
  refine ⟨l, upd B l (.lst vs), h1, hm, ⟨up, inn, fun _ _ _ e _ => e, fun _ o e n => ⟨o, e, n⟩, fun a o q => ?_⟩, ⟨inn, by rw [List.length_set]; exact v.len, fun j d q => ?_, fun j d q => ?_, fun j C d q => ?_, fun j k e e' m hjk q1 q2 q3 q4 q5 => ?_⟩, hI⟩
  · by_cases ha : a = l
    · subst ha; exact .inr (.inr hm)
    · rw [upd_ne ha] at q; exact .inl q
  · by_cases hj : i = j
    · subst hj
      rw [List.getElem?_set_self hlt] at q
      cases q
      exact ⟨_, h1, hI⟩
    · rw [List.getElem?_set_ne hj] at q
      obtain ⟨x, q1, q2⟩ := v.dat j d q
      exact ⟨x, q1, q2.mono up⟩
  · by_cases hj : i = j
    · subst hj
      rw [List.getElem?_set_self hlt] at q; cases q
    · rw [List.getElem?_set_ne hj] at q
      obtain ⟨m, ws, q1, q2, q3, q4⟩ := v.mls j d q
      have hne : m ≠ l := fun z => by subst z; exact v.apart i j _ _ m hj hi rfl q rfl h1 q1
      exact ⟨m, ws, q1, by rw [upd_ne hne]; exact q2, q3, q4.mono up⟩
  · by_cases hj : i = j
    · subst hj
      rw [List.getElem?_set_self hlt] at q; cases q
    · rw [List.getElem?_set_ne hj] at q
      obtain ⟨m, dx, ws, q1, q2, q3, q4⟩ := v.mob j C d q
      have hne : m ≠ l := fun z => by subst z; exact v.apart i j _ _ m hj hi rfl q rfl h1 q1
      exact ⟨m, dx, ws, q1, by rw [upd_ne hne]; exact q2, q3, q4.mono up⟩
  · have fix : ∀ {j : Nat} {e : Slo}, (ε.set i (.dat (.lst ds)))[j]? = some e → e.mut = true → ε[j]? = some e := fun {j e} h hm => by
      by_cases hj : i = j
      · subst hj; rw [List.getElem?_set_self hlt] at h; cases h; cases hm
      · rw [List.getElem?_set_ne hj] at h; exact h
    exact v.apart j k e e' m hjk (fix q1 q2) q2 (fix q3 q4) q4 q5
end
end Wd
/-! Mirrors: what an expression gives, as a function of what the slots hold; and that the machine gives it. -/
namespace Wd
open PySem L2

/-- nothing becomes changing -/
structure Keeps (ε ε' : List Slo) : Prop where
  len : ε'.length = ε.length
  muts : ∀ (i : Nat) (e' : Slo), ε'[i]? = some e' → e'.mut = true → ∃ e, ε[i]? = some e ∧ e.mut = true
theorem Keeps.refl (ε : List Slo) : Keeps ε ε := ⟨rfl, fun _ e h m => ⟨e, h, m⟩⟩
theorem Keeps.trans {a b c : List Slo} (h : Keeps a b) (k : Keeps b c) : Keeps a c := ⟨k.len.trans h.len, fun i e q m => let ⟨e1, q1, m1⟩ := k.muts i e q m; h.muts i e1 q1 m1⟩
theorem Keeps.mu {ε ε' : List Slo} (h : Keeps ε ε') {σ : L2.St} {a : Addr} (m : Mu σ ε' a) : Mu σ ε a := by
  obtain ⟨i, e, h1, h2, h3⟩ := m
  obtain ⟨e0, q1, q2⟩ := h.muts i e h1 h2
  exact ⟨i, e0, q1, q2, h3⟩
theorem Keeps.wrote {ε : List Slo} {i : Nat} {e e' : Slo} (h : ε[i]? = some e) (m : e.mut = true) : Keeps ε (ε.set i e') := by
  refine ⟨List.length_set, fun j u q k => ?_⟩
  by_cases hj : i = j
  · subst hj; exact ⟨e, h, m⟩
  · rw [List.getElem?_set_ne hj] at q; exact ⟨u, q, k⟩
theorem Keeps.dat {ε : List Slo} {i : Nat} {d : D} : Keeps ε (ε.set i (.dat d)) := by
  refine ⟨List.length_set, fun j u q k => ?_⟩
  by_cases hj : i = j
  · subst hj
    by_cases hlt : i < ε.length
    · rw [List.getElem?_set_self hlt] at q; cases q; cases k
    · rw [List.getElem?_eq_none (by rw [List.length_set]; omega)] at q; cases q
  · rw [List.getElem?_set_ne hj] at q; exact ⟨u, q, k⟩
theorem Mu.of_set {ε : List Slo} {i : Nat} {d : D} {σ : L2.St} {x : V} {a : Addr} (m : Mu (σ.set i (some x)) (ε.set i (.dat d)) a) : Mu σ ε a := by
  obtain ⟨k, e, h1, h2, h3⟩ := m
  by_cases hk : i = k
  · subst hk
    by_cases hlt : i < ε.length
    · rw [List.getElem?_set_self hlt] at h1; cases h1; cases h2
    · rw [List.getElem?_eq_none (by rw [List.length_set]; omega)] at h1; cases h1
  · rw [List.getElem?_set_ne hk] at h1 h3
    exact ⟨k, e, h1, h2, h3⟩

abbrev Sl := List Slo
/-- a value, or an error of the text's own: its class, its value -/
inductive Rs (α : Type) where
  | ok (a : α)
  | ex (C : Addr) (d : D)
/-- a step over the slots -/
abbrev M (α : Type) := Sl → Option (Rs α × Sl)
def giv {α : Type} (a : α) : M α := fun ε => some (.ok a, ε)
def lif {α : Type} (o : Option α) : M α := fun ε => match o with
  | none => none
  | some a => some (.ok a, ε)
def bnd {α β : Type} (m : M α) (f : α → M β) : M β := fun ε => match m ε with
  | none => none
  | some (.ex C d, e) => some (.ex C d, e)
  | some (.ok a, e) => f a e
section
variable {α β : Type} {m : M α} {f : α → M β} {ε e e1 : Sl} {r : Rs β} {a : α} {C : Addr} {d : D}
theorem bnd_inv (h : bnd m f ε = some (r, e)) : (∃ C d, m ε = some (.ex C d, e) ∧ r = .ex C d) ∨ ∃ a e1, m ε = some (.ok a, e1) ∧ f a e1 = some (r, e) := by
  unfold bnd at h
  split at h
  · cases h
  · rename_i C d e0 h0
    cases h
    exact .inl ⟨C, d, h0, rfl⟩
  · rename_i a e0 h0
    exact .inr ⟨a, e0, h0, h⟩
theorem lif_inv {o : Option α} {r : Rs α} (h : lif o ε = some (r, e)) : ∃ a, o = some a ∧ r = .ok a ∧ e = ε := by
  unfold lif at h
  split at h
  · cases h
  · rename_i a
    cases h
    exact ⟨a, rfl, rfl, rfl⟩
theorem bnd_ok (h : m ε = some (.ok a, e1)) : bnd m f ε = f a e1 := by unfold bnd; rw [h]
theorem bnd_ex (h : m ε = some (.ex C d, e1)) : bnd m f ε = some (.ex C d, e1) := by unfold bnd; rw [h]
@[simp] theorem bnd_giv : bnd (giv a) f = f a := rfl
@[simp] theorem giv_ap : giv a ε = some (.ok a, ε) := rfl
@[simp] theorem lif_some : lif (some a) = giv a := rfl
end

/-- an own error under way: its dict is known -/
def Flies (B : Hp) (dd : Addr) (d : D) : Prop := ∃ fs, B dd = some (.xd fs) ∧ IsF B fs [("value", d)]
theorem Flies.mono {B B' : Hp} {dd : Addr} {d : D} (f : Flies B dd d) (s : Same B B') : Flies B' dd d := by
  obtain ⟨fs, h, g⟩ := f
  exact ⟨fs, s _ _ h, g.mono s⟩

section
variable [Tab]
/-- what is to be shown of a result -/
def Got {α : Type} (W : WX) (ε e : Sl) (σ : L2.St) (B H : Hp) (P : α → Hp → Hp → Prop) : Rs α → Prop
  | .ok a => ∀ B' H', Stp (Mu σ ε) B H B' H' → Knw B' H' σ e → P a B' H'
  | .ex C d => ∀ dd B' H', Stp (Mu σ ε) B H B' H' → Knw B' H' σ e → Flies B' dd d → W (.ref C) (some dd) σ H'
theorem Got.step {α : Type} {W : WX} {ε e e1 : Sl} {σ : L2.St} {B H B1 H1 : Hp} {P : α → Hp → Hp → Prop} {r : Rs α} (g : Got W ε e σ B H P r) (s : Stp (Mu σ ε) B H B1 H1) (kp : Keeps ε e1) : Got W e1 e σ B1 H1 P r := by
  cases r with
  | ok a => exact fun B' H' s' k' => g B' H' (s.trans s' fun a m => .inl (kp.mu m)) k'
  | ex C d => exact fun dd B' H' s' k' => g dd B' H' (s.trans s' fun a m => .inl (kp.mu m)) k'
theorem Got.zero {α : Type} {W : WX} {ε e : Sl} {σ : L2.St} {B H B1 H1 : Hp} {P : α → Hp → Hp → Prop} {r : Rs α} (g : Got W ε e σ B H P r) (s : Stp0 B H B1 H1) : Got W ε e σ B1 H1 P r := g.step s.zero (.refl _)
def pV (Q : VK) : D → Hp → Hp → Prop := fun d B' H' => ∀ v, Is B' v d → Q v H'
def pB (Q : Bool → Hp → Prop) : Bool → Hp → Hp → Prop := fun b _ H' => Q b H'
def pA (Q : List V → Hp → Prop) : List D → Hp → Hp → Prop := fun ds B' H' => ∀ vs, IsA B' vs ds → Q vs H'
/-- an expression, a test, arguments -/
structure EX (W : WX) (te : TE) (m : M D) : Prop where
  run : ∀ ε r e, m ε = some (r, e) → Keeps ε e ∧ ∀ B H σ Q, Knw B H σ ε → Got W ε e σ B H (pV Q) r → te σ H Q
structure ET (W : WX) (tt : TT) (m : M Bool) : Prop where
  run : ∀ ε r e, m ε = some (r, e) → Keeps ε e ∧ ∀ B H σ Q, Knw B H σ ε → Got W ε e σ B H (pB Q) r → tt σ H Q
structure EA (W : WX) (ta : TA) (m : M (List D)) : Prop where
  run : ∀ ε r e, m ε = some (r, e) → Keeps ε e ∧ ∀ B H σ Q, Knw B H σ ε → Got W ε e σ B H (pA Q) r → ta σ H Q
/-- .. behind a value that is known -/
def EXv (W : WX) (t : V → St → Hp → VK → Prop) (x : D) (m : M D) : Prop :=
  ∀ ε r e, m ε = some (r, e) → Keeps ε e ∧ ∀ B H σ Q v, Knw B H σ ε → Is B v x → Got W ε e σ B H (pV Q) r → t v σ H Q
def EXa (W : WX) (t : List V → St → Hp → VK → Prop) (xs : List D) (m : M D) : Prop :=
  ∀ ε r e, m ε = some (r, e) → Keeps ε e ∧ ∀ B H σ Q vs, Knw B H σ ε → IsA B vs xs → Got W ε e σ B H (pV Q) r → t vs σ H Q
section
variable {W : WX} {ta tb tc te : TE} {ma mb mc : M D} {tA : TA} {mA : M (List D)} {f : D → M D} {g : List D → M D}
theorem ex_bnd {t : V → St → Hp → VK → Prop} (ha : EX W ta ma) (hf : ∀ x, EXv W t x (f x)) : EX W (fun σ H Q => ta σ H fun v H1 => t v σ H1 Q) (bnd ma f) := ⟨fun ε r e h => by
  rcases bnd_inv h with ⟨C, d, e1, rfl⟩ | ⟨x, e1, h1, h2⟩
  · obtain ⟨kp, run⟩ := ha.run _ _ _ e1
    exact ⟨kp, fun B H σ Q k g => run B H σ _ k g⟩
  · obtain ⟨kp, run⟩ := ha.run _ _ _ h1
    obtain ⟨kq, run2⟩ := hf x _ _ _ h2
    exact ⟨kp.trans kq, fun B H σ Q k g => run B H σ _ k fun B1 H1 s1 k1 v i1 => run2 B1 H1 σ Q v k1 i1 (g.step s1 kp)⟩⟩
theorem ex_bndA {t : List V → St → Hp → VK → Prop} (ha : EA W tA mA) (hf : ∀ x, EXa W t x (g x)) : EX W (fun σ H Q => tA σ H fun v H1 => t v σ H1 Q) (bnd mA g) := ⟨fun ε r e h => by
  rcases bnd_inv h with ⟨C, d, e1, rfl⟩ | ⟨x, e1, h1, h2⟩
  · obtain ⟨kp, run⟩ := ha.run _ _ _ e1
    exact ⟨kp, fun B H σ Q k g => run B H σ _ k g⟩
  · obtain ⟨kp, run⟩ := ha.run _ _ _ h1
    obtain ⟨kq, run2⟩ := hf x _ _ _ h2
    exact ⟨kp.trans kq, fun B H σ Q k g => run B H σ _ k fun B1 H1 s1 k1 v i1 => run2 B1 H1 σ Q v k1 i1 (g.step s1 kp)⟩⟩
end
/-- operations by values -/
def RD2 (r : R2) (x y z : D) : Prop := ∀ (B H : Hp) (v u : V) (Q : VK), Sb B H → Is B v x → Is B u y → (∀ w B' H', Stp0 B H B' H' → Is B' w z → Q w H') → r v u H Q
def RD1 (r : V → Hp → VK → Prop) (x z : D) : Prop := ∀ (B H : Hp) (v : V) (Q : VK), Sb B H → Is B v x → (∀ w B' H', Stp0 B H B' H' → Is B' w z → Q w H') → r v H Q
def RDn (r : List V → Hp → VK → Prop) (xs : List D) (z : D) : Prop := ∀ (B H : Hp) (vs : List V) (Q : VK), Sb B H → IsA B vs xs → (∀ w B' H', Stp0 B H B' H' → Is B' w z → Q w H') → r vs H Q

theorem Knw.stp0 {B H B' H' : Hp} {σ : L2.St} {ε : Sl} (v : Knw B H σ ε) (s : Stp0 B H B' H') : Knw B' H' σ ε := v.step0 s
/-- a name: a list that grew so far stays as it is from now on -/
def mVar (i : Nat) : M D := fun ε => match ε[i]? with
  | some (.dat d) => some (.ok d, ε)
  | some (.mls ds) => some (.ok (.lst ds), ε.set i (.dat (.lst ds)))
  | _ => none
section
variable {W : WX} {ta tb tc te : TE} {t u : TT} {mt mu : M Bool} {ma mb mc : M D} {tA tr : TA} {mA : M (List D)} {i : Nat} {d : D} {b : Bool}
theorem ex_var : EX W (tVar i) (mVar i) := ⟨fun ε r e h => by
  unfold mVar at h
  split at h
  · rename_i d hd
    cases h
    refine ⟨.refl _, fun B H σ Q k g => ?_⟩
    obtain ⟨v, h1, h2⟩ := k.dat i d hd
    exact ⟨v, h1, g B H (.refl k.sub) k v h2⟩
  · rename_i ds hd
    cases h
    refine ⟨.dat, fun B H σ Q k g => ?_⟩
    obtain ⟨l, B', h1, hm, s, k', hI⟩ := k.freeze hd
    exact ⟨_, h1, g B' H s k' _ hI⟩
  · cases h⟩
theorem ex_giv {v : V} (h : ∀ B, Is B v d) : EX W (tC v) (giv d) := ⟨fun ε r e q => by
  cases q
  exact ⟨.refl _, fun B H σ Q k g => g B H (.refl k.sub) k v (h B)⟩⟩
theorem ex_int {j : Int} : EX W (tC (.int j)) (giv (.int j)) := ex_giv fun _ => .int j
theorem ex_bl : EX W (tC (.bl b)) (giv (.bl b)) := ex_giv fun _ => .bl b
theorem ex_str {s : Str} : EX W (tC (.str s)) (giv (.str s)) := ex_giv fun _ => .str s
theorem ex_non : EX W (tC .non) (giv .non) := ex_giv fun _ => .non
/-- the last step gives a value -/
theorem exv_lif {t : V → St → Hp → VK → Prop} {x : D} {o : Option D} (h : ∀ z, o = some z → ∀ B H σ v (Q : VK), Sb B H → Is B v x → (∀ w B' H', Stp0 B H B' H' → Is B' w z → Q w H') → t v σ H Q) : EXv W t x (lif o) := fun ε r e q => by
  obtain ⟨a, rfl, rfl, rfl⟩ := lif_inv q
  exact ⟨.refl _, fun B H σ Q v k i g => h a rfl B H σ v Q k.sub i fun w B' H' s i' => g B' H' s.zero (k.step0 s) w i'⟩
theorem exa_lif {t : List V → St → Hp → VK → Prop} {x : List D} {o : Option D} (h : ∀ z, o = some z → ∀ B H σ v (Q : VK), Sb B H → IsA B v x → (∀ w B' H', Stp0 B H B' H' → Is B' w z → Q w H') → t v σ H Q) : EXa W t x (lif o) := fun ε r e q => by
  obtain ⟨a, rfl, rfl, rfl⟩ := lif_inv q
  exact ⟨.refl _, fun B H σ Q v k i g => h a rfl B H σ v Q k.sub i fun w B' H' s i' => g B' H' s.zero (k.step0 s) w i'⟩
/-- a value kept over another expression -/
theorem exv_bnd {t : V → V → St → Hp → VK → Prop} {x : D} {f : D → M D} (hb : EX W tb mb) (hf : ∀ y ε r e, f y ε = some (r, e) → Keeps ε e ∧ ∀ B H σ Q v w, Knw B H σ ε → Is B v x → Is B w y → Got W ε e σ B H (pV Q) r → t v w σ H Q) :
    EXv W (fun v σ H Q => tb σ H fun w H1 => t v w σ H1 Q) x (bnd mb f) := fun ε r e h => by
  rcases bnd_inv h with ⟨C, d, e1, rfl⟩ | ⟨y, e1, h1, h2⟩
  · obtain ⟨kp, run⟩ := hb.run _ _ _ e1
    exact ⟨kp, fun B H σ Q v k i g => run B H σ _ k g⟩
  · obtain ⟨kp, run⟩ := hb.run _ _ _ h1
    obtain ⟨kq, run2⟩ := hf y _ _ _ h2
    exact ⟨kp.trans kq, fun B H σ Q v k i g => run B H σ _ k fun B1 H1 s1 k1 w i1 => run2 B1 H1 σ Q v w k1 (i.mono s1.up) i1 (g.step s1 kp)⟩
def mOp (f : D → D → Option D) (ma mb : M D) : M D := bnd ma fun x => bnd mb fun y => lif (f x y)
def mUn (f : D → Option D) (ma : M D) : M D := bnd ma fun x => lif (f x)
theorem ex_op {r : R2} {f : D → D → Option D} (hr : ∀ x y z, f x y = some z → RD2 r x y z) (ha : EX W ta ma) (hb : EX W tb mb) : EX W (tOp r ta tb) (mOp f ma mb) :=
  ex_bnd (t := fun v σ H Q => tb σ H fun w H1 => r v w H1 Q) ha fun x => exv_bnd (t := fun v w σ H1 Q => r v w H1 Q) hb fun y ε r' e h => by
    obtain ⟨z, hz, rfl, rfl⟩ := lif_inv h
    exact ⟨.refl _, fun B H σ Q v w k i j g => hr x y z hz B H v w Q k.sub i j fun o B' H' s i' => g B' H' s.zero (k.step0 s) o i'⟩
theorem ex_un {r : V → Hp → VK → Prop} {f : D → Option D} (hr : ∀ x z, f x = some z → RD1 r x z) (ha : EX W ta ma) : EX W (tUn r ta) (mUn f ma) :=
  ex_bnd (t := fun v σ H Q => r v H Q) ha fun x => exv_lif fun z hz B H σ v Q s i q => hr x z hz B H v Q s i q
/-- arguments -/
def mNil : M (List D) := giv []
def mCons (ma : M D) (mA : M (List D)) : M (List D) := bnd ma fun x => bnd mA fun xs => giv (x :: xs)
theorem ea_nil : EA W tNil mNil := ⟨fun ε r e h => by
  cases h
  exact ⟨.refl _, fun B H σ Q k g => g B H (.refl k.sub) k [] .nil⟩⟩
theorem ea_cons (ha : EX W ta ma) (hb : EA W tr mA) : EA W (tCons ta tr) (mCons ma mA) := ⟨fun ε r e h => by
  rcases bnd_inv h with ⟨C, d, e1, rfl⟩ | ⟨x, e1, h1, h2⟩
  · obtain ⟨kp, run⟩ := ha.run _ _ _ e1
    exact ⟨kp, fun B H σ Q k g => run B H σ _ k g⟩
  · obtain ⟨kp, run⟩ := ha.run _ _ _ h1
    rcases bnd_inv h2 with ⟨C, d, e2, rfl⟩ | ⟨xs, e2, h3, h4⟩
    · obtain ⟨kq, run2⟩ := hb.run _ _ _ e2
      exact ⟨kp.trans kq, fun B H σ Q k g => run B H σ _ k fun B1 H1 s1 k1 v i1 => run2 B1 H1 σ _ k1 (g.step s1 kp)⟩
    · obtain ⟨kq, run2⟩ := hb.run _ _ _ h3
      cases h4
      exact ⟨kp.trans kq, fun B H σ Q k g => run B H σ _ k fun B1 H1 s1 k1 v i1 => run2 B1 H1 σ _ k1 fun B2 H2 s2 k2 vs i2 => g B2 H2 (s1.trans s2 fun a m => .inl (kp.mu m)) k2 _ (.cons (i1.mono s2.up) i2)⟩⟩
def mCB (f : List D → Option D) (mA : M (List D)) : M D := bnd mA fun xs => lif (f xs)
theorem ex_tcb {r : List V → Hp → VK → Prop} {f : List D → Option D} (hr : ∀ xs z, f xs = some z → RDn r xs z) (ha : EA W tr mA) : EX W (tCB r tr) (mCB f mA) :=
  ex_bndA (t := fun vs σ H Q => r vs H Q) ha fun x => exa_lif fun z hz B H σ v Q s i q => hr x z hz B H v Q s i q
def sml (k : List D → D) (xs : List D) : Option D := if xs.length ≤ 1000 then some (k xs) else none
def mTup (mA : M (List D)) : M D := bnd mA fun xs => lif (sml .tup xs)
def mLst (mA : M (List D)) : M D := bnd mA fun xs => lif (sml .lst xs)
theorem sml_inv {k : List D → D} {xs : List D} {z : D} (h : sml k xs = some z) : xs.length ≤ 1000 ∧ z = k xs := by
  unfold sml at h
  split at h
  · cases h; exact ⟨by assumption, rfl⟩
  · cases h
theorem ex_tup (ha : EA W tr mA) : EX W (tTup tr) (mTup mA) :=
  ex_bndA (t := fun vs σ H Q => vs.length ≤ sizeLine ∧ ∀ p, H p = none → Q (.ref p) (upd H p (.tup vs))) ha fun x => exa_lif fun z hz B H σ v Q s i q => by
    obtain ⟨hl, rfl⟩ := sml_inv hz
    exact ⟨by rw [i.length]; exact Nat.le_trans hl (by decide), fun p hp => by
      have s2 : Stp0 B H (upd B p (.tup v)) (upd H p (.tup v)) := .new s hp
      exact q _ _ _ s2 (.tup upd_same (i.mono s2.up))⟩
theorem ex_lst (ha : EA W tr mA) : EX W (tLst tr) (mLst mA) :=
  ex_bndA (t := fun vs σ H Q => vs.length ≤ sizeLine ∧ ∀ p, H p = none → Q (.ref p) (upd H p (.lst vs))) ha fun x => exa_lif fun z hz B H σ v Q s i q => by
    obtain ⟨hl, rfl⟩ := sml_inv hz
    exact ⟨by rw [i.length]; exact Nat.le_trans hl (by decide), fun p hp => by
      have s2 : Stp0 B H (upd B p (.lst v)) (upd H p (.lst v)) := .new s hp
      exact q _ _ _ s2 (.lst upd_same (i.mono s2.up))⟩
def mDic : M D := giv (.dic [])
theorem ex_dic : EX W (fun _ H Q => ∀ p, H p = none → Q (.ref p) (upd H p (.dK []))) mDic := ⟨fun ε r e h => by
  cases h
  exact ⟨.refl _, fun B H σ Q k g p hp => by
    have s2 : Stp0 B H (upd B p (.dK [])) (upd H p (.dK [])) := .new k.sub hp
    exact g _ _ s2.zero (k.step0 s2) _ (.dic upd_same .nil)⟩⟩

/-! ### truth -/
def mBool (ma : M D) : M Bool := bnd ma fun x => match x with
  | .bl b => giv b
  | _ => fun _ => none
theorem et_of {tt : TT} (ha : EX W ta ma) (h : ∀ σ H (Q : Bool → Hp → Prop), ta σ H (fun v H1 => ∃ k, v = .bl k ∧ Q k H1) → tt σ H Q) : ET W tt (mBool ma) := ⟨fun ε r e q => by
  rcases bnd_inv q with ⟨C, d, e1, rfl⟩ | ⟨x, e1, h1, h2⟩
  · obtain ⟨kp, run⟩ := ha.run _ _ _ e1
    exact ⟨kp, fun B H σ Q k g => h _ _ _ (run B H σ _ k g)⟩
  · obtain ⟨kp, run⟩ := ha.run _ _ _ h1
    cases x <;> simp only [reduceCtorEq] at h2
    cases h2
    refine ⟨kp, fun B H σ Q k g => h _ _ _ (run B H σ _ k fun B1 H1 s1 k1 v i1 => ?_)⟩
    cases i1
    exact ⟨_, rfl, g B1 H1 s1 k1⟩⟩
theorem et_test (ha : EX W te ma) : ET W (tTest te) (mBool ma) := et_of ha fun _ _ _ h => h
theorem et_B (ha : EX W te ma) : ET W (tB te) (mBool ma) := et_of ha fun _ _ _ h => h
def mNot (m : M Bool) : M Bool := bnd m fun b => giv (!b)
def mAnd (m n : M Bool) : M Bool := bnd m fun b => if b then n else giv false
def mOr (m n : M Bool) : M Bool := bnd m fun b => if b then giv true else n
theorem et_not (h : ET W t mt) : ET W (tNot t) (mNot mt) := ⟨fun ε r e q => by
  rcases bnd_inv q with ⟨C, d, e1, rfl⟩ | ⟨x, e1, h1, h2⟩
  · obtain ⟨kp, run⟩ := h.run _ _ _ e1
    exact ⟨kp, fun B H σ Q k g => run B H σ _ k g⟩
  · obtain ⟨kp, run⟩ := h.run _ _ _ h1
    cases h2
    exact ⟨kp, fun B H σ Q k g => run B H σ _ k g⟩⟩
theorem et_and (h : ET W t mt) (h2 : ET W u mu) : ET W (tAnd t u) (mAnd mt mu) := ⟨fun ε r e q => by
  rcases bnd_inv q with ⟨C, d, e1, rfl⟩ | ⟨x, e1, q1, q2⟩
  · obtain ⟨kp, run⟩ := h.run _ _ _ e1
    exact ⟨kp, fun B H σ Q k g => run B H σ _ k g⟩
  · obtain ⟨kp, run⟩ := h.run _ _ _ q1
    cases x with
    | true =>
      obtain ⟨kq, run2⟩ := h2.run _ _ _ (show mu e1 = some (r, e) from q2)
      exact ⟨kp.trans kq, fun B H σ Q k g => run B H σ _ k fun B1 H1 s1 k1 => by
        show u σ H1 Q
        exact run2 B1 H1 σ _ k1 (g.step s1 kp)⟩
    | false =>
      cases (show some (Rs.ok false, e1) = some (r, e) from q2)
      exact ⟨kp, fun B H σ Q k g => run B H σ _ k fun B1 H1 s1 k1 => by
        show Q false H1
        exact g B1 H1 s1 k1⟩⟩
theorem et_or (h : ET W t mt) (h2 : ET W u mu) : ET W (tOr t u) (mOr mt mu) := ⟨fun ε r e q => by
  rcases bnd_inv q with ⟨C, d, e1, rfl⟩ | ⟨x, e1, q1, q2⟩
  · obtain ⟨kp, run⟩ := h.run _ _ _ e1
    exact ⟨kp, fun B H σ Q k g => run B H σ _ k g⟩
  · obtain ⟨kp, run⟩ := h.run _ _ _ q1
    cases x with
    | false =>
      obtain ⟨kq, run2⟩ := h2.run _ _ _ (show mu e1 = some (r, e) from q2)
      exact ⟨kp.trans kq, fun B H σ Q k g => run B H σ _ k fun B1 H1 s1 k1 => by
        show u σ H1 Q
        exact run2 B1 H1 σ _ k1 (g.step s1 kp)⟩
    | true =>
      cases (show some (Rs.ok true, e1) = some (r, e) from q2)
      exact ⟨kp, fun B H σ Q k g => run B H σ _ k fun B1 H1 s1 k1 => by
        show Q true H1
        exact g B1 H1 s1 k1⟩⟩
def mYes : M Bool := giv true
/-- and, or, not as values: of truth values -/
def mAndV (ma mb : M D) : M D := bnd (mBool ma) fun b => if b then mb else giv (.bl false)
def mOrV (ma mb : M D) : M D := bnd (mBool ma) fun b => if b then giv (.bl true) else mb
def mNotV (ma : M D) : M D := bnd (mBool ma) fun b => giv (.bl (!b))
theorem ex_andV (ha : EX W ta ma) (hb : EX W tb mb) : EX W (tAndV ta tb) (mAndV ma mb) := ⟨fun ε r e q => by
  rcases bnd_inv q with ⟨C, d, e1, rfl⟩ | ⟨x, e1, q1, q2⟩
  · obtain ⟨kp, run⟩ := (et_of (tt := fun σ H Q => ta σ H (fun v H1 => ∃ k, v = .bl k ∧ Q k H1)) ha fun _ _ _ h => h).run _ _ _ e1
    exact ⟨kp, fun B H σ Q k g => run B H σ (fun _ _ => _) k g⟩
  · obtain ⟨kp, run⟩ := (et_of (tt := fun σ H Q => ta σ H (fun v H1 => ∃ k, v = .bl k ∧ Q k H1)) ha fun _ _ _ h => h).run _ _ _ q1
    cases x with
    | true =>
      obtain ⟨kq, run2⟩ := hb.run _ _ _ (show mb e1 = some (r, e) from q2)
      exact ⟨kp.trans kq, fun B H σ Q k g => run B H σ (fun c H1 => if c = true then tb σ H1 Q else Q (.bl false) H1) k fun B1 H1 s1 k1 => by
        show tb σ H1 Q
        exact run2 B1 H1 σ _ k1 (g.step s1 kp)⟩
    | false =>
      cases (show some (Rs.ok (D.bl false), e1) = some (r, e) from q2)
      exact ⟨kp, fun B H σ Q k g => run B H σ (fun c H1 => if c = true then tb σ H1 Q else Q (.bl false) H1) k fun B1 H1 s1 k1 => by
        show Q (.bl false) H1
        exact g B1 H1 s1 k1 _ (.bl _)⟩⟩
end
end
end Wd
namespace Wd
open PySem L2
section
variable [Tab] {W : WX} {ta tb tc te : TE} {t u : TT} {mt mu : M Bool} {ma mb mc : M D} {tA tr : TA} {mA : M (List D)} {i : Nat} {d : D} {b : Bool}
theorem et_raw (ha : EX W ta ma) : ET W (fun σ H Q => ta σ H (fun v H1 => ∃ k, v = .bl k ∧ Q k H1)) (mBool ma) := et_of ha fun _ _ _ h => h
theorem ex_orV (ha : EX W ta ma) (hb : EX W tb mb) : EX W (tOrV ta tb) (mOrV ma mb) := ⟨fun ε r e q => by
  rcases bnd_inv q with ⟨C, d, e1, rfl⟩ | ⟨x, e1, q1, q2⟩
  · obtain ⟨kp, run⟩ := (et_raw ha).run _ _ _ e1
    exact ⟨kp, fun B H σ Q k g => run B H σ (fun _ _ => _) k g⟩
  · obtain ⟨kp, run⟩ := (et_raw ha).run _ _ _ q1
    cases x with
    | false =>
      obtain ⟨kq, run2⟩ := hb.run _ _ _ (show mb e1 = some (r, e) from q2)
      exact ⟨kp.trans kq, fun B H σ Q k g => run B H σ (fun c H1 => if c = true then Q (.bl true) H1 else tb σ H1 Q) k fun B1 H1 s1 k1 => by
        show tb σ H1 Q
        exact run2 B1 H1 σ _ k1 (g.step s1 kp)⟩
    | true =>
      cases (show some (Rs.ok (D.bl true), e1) = some (r, e) from q2)
      exact ⟨kp, fun B H σ Q k g => run B H σ (fun c H1 => if c = true then Q (.bl true) H1 else tb σ H1 Q) k fun B1 H1 s1 k1 => by
        show Q (.bl true) H1
        exact g B1 H1 s1 k1 _ (.bl _)⟩⟩
theorem ex_notV (ha : EX W ta ma) : EX W (tNotV ta) (mNotV ma) := ⟨fun ε r e q => by
  rcases bnd_inv q with ⟨C, d, e1, rfl⟩ | ⟨x, e1, q1, q2⟩
  · obtain ⟨kp, run⟩ := (et_raw ha).run _ _ _ e1
    exact ⟨kp, fun B H σ Q k g => run B H σ (fun _ _ => _) k g⟩
  · obtain ⟨kp, run⟩ := (et_raw ha).run _ _ _ q1
    cases q2
    exact ⟨kp, fun B H σ Q k g => run B H σ (fun c H1 => Q (.bl (!c)) H1) k fun B1 H1 s1 k1 => g B1 H1 s1 k1 _ (.bl _)⟩⟩
def mIf (m : M Bool) (ma mb : M D) : M D := bnd m fun b => if b then ma else mb
theorem ex_if (h : ET W t mt) (ha : EX W ta ma) (hb : EX W tb mb) : EX W (tIf t ta tb) (mIf mt ma mb) := ⟨fun ε r e q => by
  rcases bnd_inv q with ⟨C, d, e1, rfl⟩ | ⟨x, e1, q1, q2⟩
  · obtain ⟨kp, run⟩ := h.run _ _ _ e1
    exact ⟨kp, fun B H σ Q k g => run B H σ _ k g⟩
  · obtain ⟨kp, run⟩ := h.run _ _ _ q1
    cases x with
    | true =>
      obtain ⟨kq, run2⟩ := ha.run _ _ _ (show ma e1 = some (r, e) from q2)
      exact ⟨kp.trans kq, fun B H σ Q k g => run B H σ _ k fun B1 H1 s1 k1 => by
        show ta σ H1 Q
        exact run2 B1 H1 σ _ k1 (g.step s1 kp)⟩
    | false =>
      obtain ⟨kq, run2⟩ := hb.run _ _ _ (show mb e1 = some (r, e) from q2)
      exact ⟨kp.trans kq, fun B H σ Q k g => run B H σ _ k fun B1 H1 s1 k1 => by
        show tb σ H1 Q
        exact run2 B1 H1 σ _ k1 (g.step s1 kp)⟩⟩
/-- a < b < c -/
def mChain (f g : D → D → Option D) (ma mb mc : M D) : M D := bnd ma fun x => bnd mb fun y => bnd (mBool (lif (f x y))) fun k => if k then bnd mc fun z => lif (g y z) else giv (.bl false)
theorem ex_chain {r r' : R2} {f g : D → D → Option D} (hr : ∀ x y z, f x y = some z → RD2 r x y z) (hr' : ∀ x y z, g x y = some z → RD2 r' x y z) (ha : EX W ta ma) (hb : EX W tb mb) (hc : EX W tc mc) : EX W (tChain r r' ta tb tc) (mChain f g ma mb mc) :=
  ex_bnd (t := fun x σ H1 Q => tb σ H1 fun y H2 => r x y H2 fun z H3 => ∃ k, z = .bl k ∧ (if k = true then tc σ H3 fun w' H4 => r' y w' H4 Q else Q (.bl false) H3)) ha fun x =>
    exv_bnd (t := fun x y σ H2 Q => r x y H2 fun z H3 => ∃ k, z = .bl k ∧ (if k = true then tc σ H3 fun w' H4 => r' y w' H4 Q else Q (.bl false) H3)) hb fun y ε r0 e q => by
      rcases bnd_inv q with ⟨C, d, e1, rfl⟩ | ⟨k, e1, q1, q2⟩
      · rcases bnd_inv e1 with ⟨C, d, e2, _⟩ | ⟨z, e2, q3, q4⟩
        · obtain ⟨_, _, z, _⟩ := lif_inv e2
          cases z
        · cases z <;> cases q4
      · rcases bnd_inv q1 with ⟨C, d, e2, z⟩ | ⟨z, e2, q3, q4⟩
        · cases z
        · obtain ⟨z', hz, e3, rfl⟩ := lif_inv q3
          cases e3
          cases z <;> simp only [reduceCtorEq] at q4
          cases q4
          cases k with
          | false =>
            cases (show some (Rs.ok (D.bl false), _) = some (r0, e) from q2)
            exact ⟨.refl _, fun B H σ Q v w k i j g => hr x y _ hz B H v w _ k.sub i j fun o B3 H3 s3 i3 => by
              cases i3
              exact ⟨false, rfl, by
                show Q (.bl false) H3
                exact g _ _ s3.zero (k.step0 s3) _ (.bl _)⟩⟩
          | true =>
            rcases bnd_inv (show bnd mc (fun z => lif (g y z)) _ = some (r0, e) from q2) with ⟨C, d, e1, rfl⟩ | ⟨z, e1, h1, h2⟩
            · obtain ⟨kp, run⟩ := hc.run _ _ _ e1
              exact ⟨kp, fun B H σ Q v w k i j g => hr x y _ hz B H v w _ k.sub i j fun o B3 H3 s3 i3 => by
                cases i3
                exact ⟨true, rfl, by
                  show tc σ H3 _
                  exact run B3 H3 σ _ (k.step0 s3) (g.zero s3)⟩⟩
            · obtain ⟨kp, run⟩ := hc.run _ _ _ h1
              obtain ⟨z', hz', rfl, rfl⟩ := lif_inv h2
              exact ⟨kp, fun B H σ Q v w k i j g => hr x y _ hz B H v w _ k.sub i j fun o B3 H3 s3 i3 => by
                cases i3
                exact ⟨true, rfl, by
                  show tc σ H3 _
                  refine run B3 H3 σ _ (k.step0 s3) fun B5 H5 s5 k5 w2 i5 => ?_
                  exact hr' y z z' hz' B5 H5 w w2 Q k5.sub ((j.mono s3.up).mono s5.up) i5 fun o2 B6 H6 s6 i6 => g B6 H6 ((s3.zero.trans s5 fun a m => .inl m).trans0 s6) (k5.step0 s6) o2 i6⟩⟩
/-- e.f of an own object -/
def fldF (C : Addr) (f : Str) : D → Option D
  | .obj C' gs => if C' = C then gs.lookup f else none
  | _ => none
theorem rd_fld {K : PySem.W.Frag} {C : Addr} {f : Str} (hc : Cls K C) (hn : NoAttr K C f) {x z : D} (h : fldF C f x = some z) : RD1 (fun x H Q => ∃ a C dx fs v, x = .ref a ∧ H a = some (.ins C dx fs) ∧ Cls K C ∧ NoAttr K C f ∧ fs.lookup f = some v ∧ Q v H) x z := fun B H v Q s i q => by
  unfold fldF at h
  split at h
  · split at h
    · rename_i C' gs hC
      subst hC
      cases i with
      | obj ha g =>
        obtain ⟨w, h1, h2⟩ := g.lookup h
        exact ⟨_, _, _, _, w, rfl, s _ _ ha, hc, hn, h1, q w B H (.refl s) h2⟩
    · cases h
  · cases h
/-- the fields of any of some classes -/
structure Fields (K : PySem.W.Frag) (f : Str) (fl : D → Option D) : Prop where
  ok : ∀ C gs z, fl (.obj C gs) = some z → gs.lookup f = some z ∧ Cls K C ∧ NoAttr K C f
  no : ∀ x, (∀ C gs, x ≠ .obj C gs) → fl x = none
def mFld (fl : D → Option D) (ma : M D) : M D := mUn fl ma
theorem ex_fld {K : PySem.W.Frag} {f : Str} {fl : D → Option D} (F : Fields K f fl) (ha : EX W ta ma) : EX W (tFld K ta f) (mFld fl ma) :=
  ex_un (r := fun x H Q => ∃ a C dx fs v, x = .ref a ∧ H a = some (.ins C dx fs) ∧ Cls K C ∧ NoAttr K C f ∧ fs.lookup f = some v ∧ Q v H) (fun x z h B H v Q s i q => by
    by_cases hx : ∃ C gs, x = .obj C gs
    · obtain ⟨C, gs, rfl⟩ := hx
      obtain ⟨h1, h2, h3⟩ := F.ok C gs z h
      cases i with
      | obj ha g =>
        obtain ⟨w, g1, g2⟩ := g.lookup h1
        exact ⟨_, _, _, _, w, rfl, s _ _ ha, h2, h3, g1, q w B H (.refl s) g2⟩
    · rw [F.no x fun C gs e => hx ⟨C, gs, e⟩] at h
      cases h) ha

/-! ### promises and calls -/
/-- a def by its mirror: data in, data out, or an error of the text's own -/
def spX (m : List D → Option (Rs D)) : Sp := fun vs H Q E => ∃ B ds r, Sb B H ∧ IsA B vs ds ∧ m ds = some r ∧
  match r with
  | .ok d => ∀ v B' H', Stp0 B H B' H' → Is B' v d → Q v H'
  | .ex C d => ∀ dd B' H', Stp0 B H B' H' → Flies B' dd d → E (.ref C) (some dd) H'
/-- a def whose first argument is a list that it changes -/
def spY (m : List D → List D → Option (D × List D)) : Sp := fun vs H Q _ => ∃ B p ws ms vs' ds d ms', vs = V.ref p :: vs' ∧ Sb B H ∧ B p = none ∧ H p = some (.lst ws) ∧ IsA B ws ms ∧ IsA B vs' ds ∧ m ms ds = some (d, ms') ∧
  ∀ v B' H' ws', Stp (· = p) B H B' H' → B' p = none → H' p = some (.lst ws') → IsA B' ws' ms' → Is B' v d → Q v H'
/-- a def that makes a list that its caller may change -/
def spZ (m : List D → Option (List D)) : Sp := fun vs H Q _ => ∃ B ds ms, Sb B H ∧ IsA B vs ds ∧ m ds = some ms ∧ ∀ p ws B' H', Stp0 B H B' H' → Fre H p → B' p = none → H' p = some (.lst ws) → IsA B' ws ms → Q (.ref p) H'
/-- an __init__: the fields that it gives, or an error -/
def spW (C : Addr) (m : List D → Option (Rs (List (Str × D)))) : Sp := fun vs H Q E => ∃ B x dx vs' ds r, vs = V.ref x :: vs' ∧ Sb B H ∧ B x = none ∧ H x = some (.ins C dx []) ∧ IsA B vs' ds ∧ m ds = some r ∧
  match r with
  | .ok gs => ∀ B' H' dx' fs, Stp (· = x) B H B' H' → B' x = none → H' x = some (.ins C dx' fs) → IsF B' fs gs → Q .non H'
  | .ex C d => ∀ dd B' H', Stp (· = x) B H B' H' → Flies B' dd d → E (.ref C) (some dd) H'
def rs {α : Type} (o : Option (Rs α)) : M α := fun ε => o.map fun r => (r, ε)
theorem rs_inv {α : Type} {o : Option (Rs α)} {ε e : Sl} {r : Rs α} (h : rs o ε = some (r, e)) : o = some r ∧ e = ε := by
  unfold rs at h
  cases o with
  | none => cases h
  | some x => cases h; exact ⟨rfl, rfl⟩
/-- a call; what it lets out is wished for -/
def mCall (m : List D → Option (Rs D)) (mA : M (List D)) : M D := bnd mA fun xs => rs (m xs)
/-- a call that lets nothing out -/
def ok0 {α : Type} : Option (Rs α) → Option α
  | some (.ok a) => some a
  | _ => none
def mCall0 (m : List D → Option (Rs D)) (mA : M (List D)) : M D := bnd mA fun xs => lif (ok0 (m xs))
theorem ok0_inv {α : Type} {o : Option (Rs α)} {a : α} (h : ok0 o = some a) : o = some (.ok a) := by
  unfold ok0 at h
  split at h
  · cases h; rfl
  · cases h
theorem ex_call0 {m : List D → Option (Rs D)} {XE : XK} (h : EA W tA mA) : EX W (tCall (spX m) [] XE tA) (mCall0 m mA) :=
  ex_bndA (t := fun vs σ H1 Q => spX m (vs ++ []) H1 Q XE) h fun xs => exa_lif fun z hz B H σ v Q s i q =>
    ⟨B, xs, .ok z, s, by rw [List.append_nil]; exact i, ok0_inv hz, fun w B' H' s' i' => q w B' H' s' i'⟩
theorem ex_call {m : List D → Option (Rs D)} {E : St → XK} (hE : ∀ σ C d H, W C d σ H → E σ C d H) (h : EA W tA mA) : EX W (fun σ H Q => tA σ H fun vs H1 => spX m (vs ++ []) H1 Q (E σ)) (mCall m mA) :=
  ex_bndA (t := fun vs σ H1 Q => spX m (vs ++ []) H1 Q (E σ)) h fun xs ε r e q => by
    obtain ⟨q1, rfl⟩ := rs_inv q
    refine ⟨.refl _, fun B H σ Q vs k i g => ⟨B, xs, r, k.sub, by rw [List.append_nil]; exact i, q1, ?_⟩⟩
    cases r with
    | ok d => exact fun v B' H' s' i' => g B' H' s'.zero (k.step0 s') v i'
    | ex C d => exact fun dd B' H' s' f => hE _ _ _ _ (g dd B' H' s'.zero (k.step0 s') f)
/-- a call that changes the list in slot i -/
def mCallY (i : Nat) (m : List D → List D → Option (D × List D)) (mA : M (List D)) : M D := fun ε => match ε[i]? with
  | some (.mls _) => bnd mA (fun xs ε1 => match ε1[i]? with
    | some (.mls ms) => (m ms xs).map fun p => (.ok p.1, ε1.set i (.mls p.2))
    | _ => none) ε
  | _ => none
theorem ex_callY {m : List D → List D → Option (D × List D)} {XE : XK} (h : EA W tA mA) : EX W (tCall (spY m) [] XE (tCons (tVar i) tA)) (mCallY i m mA) := ⟨fun ε r e q => by
  unfold mCallY at q
  split at q
  · rename_i es h0
    rcases bnd_inv q with ⟨C, d, e1, rfl⟩ | ⟨xs, e1, h1, h2⟩
    · obtain ⟨kp, run⟩ := h.run _ _ _ e1
      refine ⟨kp, fun B H σ Q k g => ?_⟩
      obtain ⟨l, vs0, q1, _, _, _⟩ := k.mls i es h0
      exact ⟨_, q1, run B H σ _ k g⟩
    · obtain ⟨kp, run⟩ := h.run _ _ _ h1
      split at h2
      · rename_i ms hi
        cases hm : m ms xs with
        | none => rw [hm] at h2; cases h2
        | some p =>
          rw [hm] at h2
          cases h2
          refine ⟨kp.trans (.wrote hi rfl), fun B H σ Q k g => ?_⟩
          obtain ⟨l, vs0, q1, _, _, _⟩ := k.mls i es h0
          refine ⟨_, q1, run B H σ _ k fun B1 H1 s1 k1 vs i1 => ?_⟩
          obtain ⟨l', ws, r1, r2, r3, r4⟩ := k1.mls i ms hi
          rw [q1] at r1
          cases r1
          refine ⟨B1, l, ws, ms, vs, xs, p.1, p.2, by rw [List.append_nil], k1.sub, r2, r3, r4, i1, hm, fun v B2 H2 ws' s2 b2 h2 w2 i2 => ?_⟩
          have hm : Mu σ e1 l := ⟨i, _, hi, rfl, q1⟩
          exact g B2 H2 (s1.trans s2 fun a e => .inl (kp.mu (e ▸ hm))) (k1.wrote hi q1 s2 b2 h2 w2) v i2
      · cases h2
  · cases q⟩
/-- f(g(..)), g making the list that f changes -/
def mCallN (m : List D → List D → Option (D × List D)) (m' : List D → Option (List D)) (mA : M (List D)) : M D := bnd mA fun xs => lif (match m' xs with
  | some ms => (m ms []).map (·.1)
  | none => none)
theorem ex_callN {m : List D → List D → Option (D × List D)} {m' : List D → Option (List D)} {XE XE' : XK} (h : EA W tA mA) : EX W (tCall (spY m) [] XE (tCons (tCall (spZ m') [] XE' tA) tNil)) (mCallN m m' mA) :=
  ex_bndA (t := fun vs σ H1 Q => spZ m' (vs ++ []) H1 (fun v H2 => spY m ([v] ++ []) H2 Q XE) XE') h fun xs => exa_lif fun z hz B H σ v Q s i q => by
    split at hz
    · rename_i ms hms
      cases hm : m ms [] with
      | none => rw [hm] at hz; cases hz
      | some p =>
        rw [hm] at hz
        cases hz
        exact ⟨B, xs, ms, s, by rw [List.append_nil]; exact i, hms, fun a ws B2 H2 s2 hp b2 h2 w2 =>
          ⟨B2, a, ws, ms, [], [], p.1, p.2, rfl, s2.inn, b2, h2, w2, .nil, hm, fun v B3 H3 ws' s3 b3 h3 w3 i3 => by
            have s4 : Stp0 B H B3 H3 := s2.trans s3 fun a e => .inr (by rw [e]; exact hp)
            exact q v B3 H3 s4 i3⟩⟩
    · cases hz
end
end Wd
/-! Operations on data. -/
namespace Wd
open PySem L2

mutual
def D.py : D → PyData
  | .non => .none
  | .bl b => .bool b
  | .int i => .int i
  | .str x => .str x
  | .lst ds => .list (D.pyA ds)
  | .tup ds => .tuple (D.pyA ds)
  | .dic _ => .none
  | .scr _ => .none
  | .obj _ _ => .none
  | .err _ _ => .none
def D.pyA : List D → List PyData
  | [] => []
  | d :: ds => d.py :: D.pyA ds
end
mutual
def D.plain : D → Bool
  | .lst ds => D.plainA ds
  | .tup ds => D.plainA ds
  | .dic _ => false
  | .scr _ => false
  | .obj _ _ => false
  | .err _ _ => false
  | _ => true
def D.plainA : List D → Bool
  | [] => true
  | d :: ds => d.plain && D.plainA ds
end
section
variable {K : PySem.W.Frag} {B H : Hp}
mutual
theorem Is.dp (s : Same B H) : ∀ {v : V} {d : D}, Is B v d → d.plain = true → Dp K H v d.py
  | _, _, .non, _ => .non
  | _, _, .bl b, _ => .bl b
  | _, _, .int i, _ => .int i
  | _, _, .str x, _ => .str x
  | _, _, .lst h q, p => .lst (.of (s _ _ h)) (IsA.dp s q (by simpa [D.plain] using p))
  | _, _, .tup h q, p => .tup (.of (s _ _ h)) (IsA.dp s q (by simpa [D.plain] using p))
  | _, _, .dic h q, p => by simp [D.plain] at p
  | _, _, .scr h q, p => by simp [D.plain] at p
  | _, _, .obj h q, p => by simp [D.plain] at p
  | _, _, .err h g q, p => by simp [D.plain] at p
theorem IsA.dp (s : Same B H) : ∀ {v : List V} {d : List D}, IsA B v d → D.plainA d = true → DpAll K H v (D.pyA d)
  | _, _, .nil, _ => .nil
  | _, _, .cons h q, p => by
    simp only [D.plainA, Bool.and_eq_true] at p
    exact .cons (Is.dp s h p.1) (IsA.dp s q p.2)
end
end
/-- plain data that == and in may go through -/
structure Pl (d : D) : Prop where
  pl : d.plain = true
  sh : SeqAt.shaped d.py = true

theorem pyA_eq : ∀ ds : List D, D.pyA ds = ds.map D.py
  | [] => by simp [D.pyA]
  | d :: ds => by simp [D.pyA, pyA_eq ds]
theorem plainA_eq : ∀ ds : List D, D.plainA ds = ds.all D.plain
  | [] => by simp [D.plainA]
  | d :: ds => by simp [D.plainA, plainA_eq ds]
theorem canLayAll0_eq : ∀ ds : List PyData, PyData.canLayAll0 ds = ds.all PyData.canLay0
  | [] => by simp [PyData.canLayAll0]
  | d :: ds => by simp [PyData.canLayAll0, canLayAll0_eq ds]
theorem depthAll_le {n : Nat} : ∀ {ds : List PyData}, (∀ d ∈ ds, d.depth ≤ n) → PyData.depthAll ds ≤ n
  | [], _ => by simp [PyData.depthAll]
  | d :: ds, h => by
    simp only [PyData.depthAll]
    have h1 := h d (by simp)
    have h2 := depthAll_le (ds := ds) fun e he => h e (by simp [he])
    omega
/-- plain, of so small a depth -/
structure PlN (n : Nat) (d : D) : Prop where
  pl : d.plain = true
  lay : d.py.canLay0 = true
  dep : d.py.depth ≤ n
theorem PlN.to {n : Nat} {d : D} (h : PlN n d) (hn : n ≤ 64 := by decide) : Pl d := ⟨h.pl, by
  unfold SeqAt.shaped
  rw [h.lay, Bool.true_and]
  exact decide_eq_true (Nat.le_trans h.dep hn)⟩
theorem PlN.mono {n m : Nat} {d : D} (h : PlN n d) (hn : n ≤ m) : PlN m d := ⟨h.pl, h.lay, Nat.le_trans h.dep hn⟩
theorem pln_int {i : Int} {n : Nat} : PlN n (.int i) := ⟨by simp [D.plain], by simp [D.py, PyData.canLay0], by simp [D.py, PyData.depth]⟩
theorem pln_bl {i : Bool} {n : Nat} : PlN n (.bl i) := ⟨by simp [D.plain], by simp [D.py, PyData.canLay0], by simp [D.py, PyData.depth]⟩
theorem pln_non {n : Nat} : PlN n .non := ⟨by simp [D.plain], by simp [D.py, PyData.canLay0], by simp [D.py, PyData.depth]⟩
theorem pln_str {x : Str} {n : Nat} (h : PyData.strOk x = true) : PlN n (.str x) := ⟨by simp [D.plain], by simp [D.py, PyData.canLay0, h], by simp [D.py, PyData.depth]⟩
theorem pln_tup {ds : List D} {n : Nat} (h : ∀ d ∈ ds, PlN n d) : PlN (n + 1) (.tup ds) := by
  refine ⟨?_, ?_, ?_⟩
  · simp only [D.plain, plainA_eq, List.all_eq_true]
    exact fun d hd => (h d hd).pl
  · simp only [D.py, PyData.canLay0, canLayAll0_eq, pyA_eq, List.all_map, List.all_eq_true]
    exact fun d hd => (h d hd).lay
  · simp only [D.py, PyData.depth, pyA_eq]
    have := depthAll_le (n := n) (ds := ds.map D.py) fun e he => by
      obtain ⟨d, hd, rfl⟩ := List.mem_map.mp he
      exact (h d hd).dep
    omega
theorem pln_lst {ds : List D} {n : Nat} (h : ∀ d ∈ ds, PlN n d) : PlN (n + 1) (.lst ds) := by
  have := pln_tup h
  refine ⟨?_, ?_, ?_⟩
  · simpa only [D.plain] using this.pl
  · simpa only [D.py, PyData.canLay0] using this.lay
  · simpa only [D.py, PyData.depth] using this.dep

/-! ### == of data without truth values is being equal -/
mutual
def D.noB : D → Bool
  | .bl _ => false
  | .lst ds => D.noBA ds
  | .tup ds => D.noBA ds
  | .dic _ => false
  | .scr _ => false
  | .obj _ _ => false
  | .err _ _ => false
  | _ => true
def D.noBA : List D → Bool
  | [] => true
  | d :: ds => d.noB && D.noBA ds
end
mutual
theorem eqv_iff : ∀ (a b : D), a.noB = true → b.noB = true → (PyData.eqv a.py b.py = true ↔ a = b)
  | .non, b, _, hb => by cases b <;> simp_all [D.noB, D.py, PyData.eqv]
  | .bl _, b, ha, _ => by simp [D.noB] at ha
  | .int i, b, _, hb => by cases b <;> simp_all [D.noB, D.py, PyData.eqv]
  | .str x, b, _, hb => by cases b <;> simp_all [D.noB, D.py, PyData.eqv]
  | .lst ds, b, ha, hb => by
    cases b with
    | lst es =>
      simp only [D.noB] at ha hb
      simp only [D.py, PyData.eqv, D.lst.injEq]
      exact eqvA_iff ds es ha hb
    | _ => simp_all [D.noB, D.py, PyData.eqv]
  | .tup ds, b, ha, hb => by
    cases b with
    | tup es =>
      simp only [D.noB] at ha hb
      simp only [D.py, PyData.eqv, D.tup.injEq]
      exact eqvA_iff ds es ha hb
    | _ => simp_all [D.noB, D.py, PyData.eqv]
  | .dic _, b, ha, _ => by simp [D.noB] at ha
  | .scr _, b, ha, _ => by simp [D.noB] at ha
  | .obj _ _, b, ha, _ => by simp [D.noB] at ha
  | .err _ _, b, ha, _ => by simp [D.noB] at ha
theorem eqvA_iff : ∀ (a b : List D), D.noBA a = true → D.noBA b = true → (PyData.eqvAll (D.pyA a) (D.pyA b) = true ↔ a = b)
  | [], [], _, _ => by simp [D.pyA, PyData.eqvAll]
  | [], _ :: _, _, _ => by simp [D.pyA, PyData.eqvAll]
  | _ :: _, [], _, _ => by simp [D.pyA, PyData.eqvAll]
  | x :: xs, y :: ys, ha, hb => by
    simp only [D.noBA, Bool.and_eq_true] at ha hb
    simp only [D.pyA, PyData.eqvAll, Bool.and_eq_true, eqv_iff x y ha.1 hb.1, eqvA_iff xs ys ha.2 hb.2, List.cons.injEq]
end

section
variable [Tab] {X : Cx} {K : PySem.W.Frag}

/-! ### numbers -/
theorem rd_I0 {g : Int → Int → V} {i j : Int} {z : D} (h : ∀ B, Is B (g i j) z) : RD2 (rI0 g) (.int i) (.int j) z := fun B H v u Q s h1 h2 q => by
  cases h1
  cases h2
  exact ⟨i, j, rfl, rfl, q _ B H (.refl s) (h B)⟩
theorem rd_I {C : Int → Int → Prop} {g : Int → Int → V} {i j : Int} {z : D} (hc : C i j) (h : ∀ B, Is B (g i j) z) : RD2 (rI C g) (.int i) (.int j) z := fun B H v u Q s h1 h2 q => by
  cases h1
  cases h2
  exact ⟨i, j, rfl, rfl, hc, q _ B H (.refl s) (h B)⟩
theorem rd_add {i j : Int} : RD2 (rI0 fun i j => .int (i + j)) (.int i) (.int j) (.int (i + j)) := rd_I0 fun _ => .int _
theorem rd_sub {i j : Int} : RD2 (rI0 fun i j => .int (i - j)) (.int i) (.int j) (.int (i - j)) := rd_I0 fun _ => .int _
theorem rd_mul {i j : Int} (h : CMul i j) : RD2 (rI CMul fun i j => .int (i * j)) (.int i) (.int j) (.int (i * j)) := rd_I h fun _ => .int _
theorem rd_mod {i j : Int} (h : 0 < j) : RD2 (rI (fun _ j => 0 < j) fun i j => .int (i % j)) (.int i) (.int j) (.int (i % j)) := rd_I (C := fun _ j => 0 < j) h fun _ => .int _
theorem rd_div {i j : Int} (h : CDiv i j) : RD2 (rI CDiv fun i j => .int (i / j)) (.int i) (.int j) (.int (i / j)) := rd_I h fun _ => .int _
theorem rd_pow {i j : Int} (h : CPow i j) : RD2 (rI CPow fun i j => .int (i ^ j.toNat)) (.int i) (.int j) (.int (i ^ j.toNat)) := rd_I h fun _ => .int _
theorem rd_powW {i j : Int} (h : CPowW i j) : RD2 (rI CPowW fun i j => .int (i ^ j.toNat)) (.int i) (.int j) (.int (i ^ j.toNat)) := rd_I h fun _ => .int _
theorem rd_lt {i j : Int} : RD2 (rI0 fun i j => .bl (decide (i < j))) (.int i) (.int j) (.bl (decide (i < j))) := rd_I0 fun _ => .bl _
theorem rd_le {i j : Int} : RD2 (rI0 fun i j => .bl (decide (i ≤ j))) (.int i) (.int j) (.bl (decide (i ≤ j))) := rd_I0 fun _ => .bl _
theorem rd_gt {i j : Int} : RD2 (rI0 fun i j => .bl (decide (j < i))) (.int i) (.int j) (.bl (decide (j < i))) := rd_I0 fun _ => .bl _
theorem rd_ge {i j : Int} : RD2 (rI0 fun i j => .bl (decide (j ≤ i))) (.int i) (.int j) (.bl (decide (j ≤ i))) := rd_I0 fun _ => .bl _
/-! ### == of atoms -/
theorem rd_eqI {i j : Int} : RD2 rEq (.int i) (.int j) (.bl (decide (i = j))) := fun B H v u Q s h1 h2 q => by
  cases h1
  cases h2
  refine ⟨rfl, q _ B H (.refl s) ?_⟩
  rw [show decide (V.int i = V.int j) = decide (i = j) by simp]
  exact .bl _
theorem rd_neI {i j : Int} : RD2 rNe (.int i) (.int j) (.bl (!decide (i = j))) := fun B H v u Q s h1 h2 q => by
  cases h1
  cases h2
  refine ⟨rfl, q _ B H (.refl s) ?_⟩
  rw [show decide (V.int i = V.int j) = decide (i = j) by simp]
  exact .bl _
theorem rd_eqS {i j : Str} : RD2 rEq (.str i) (.str j) (.bl (decide (i = j))) := fun B H v u Q s h1 h2 q => by
  cases h1
  cases h2
  refine ⟨rfl, q _ B H (.refl s) ?_⟩
  rw [show decide (V.str i = V.str j) = decide (i = j) by simp]
  exact .bl _
theorem rd_neS {i j : Str} : RD2 rNe (.str i) (.str j) (.bl (!decide (i = j))) := fun B H v u Q s h1 h2 q => by
  cases h1
  cases h2
  refine ⟨rfl, q _ B H (.refl s) ?_⟩
  rw [show decide (V.str i = V.str j) = decide (i = j) by simp]
  exact .bl _
theorem rd_eqB {i j : Bool} : RD2 rEq (.bl i) (.bl j) (.bl (decide (i = j))) := fun B H v u Q s h1 h2 q => by
  cases h1
  cases h2
  refine ⟨rfl, q _ B H (.refl s) ?_⟩
  rw [show decide (V.bl i = V.bl j) = decide (i = j) by simp]
  exact .bl _
theorem rd_neB {i j : Bool} : RD2 rNe (.bl i) (.bl j) (.bl (!decide (i = j))) := fun B H v u Q s h1 h2 q => by
  cases h1
  cases h2
  refine ⟨rfl, q _ B H (.refl s) ?_⟩
  rw [show decide (V.bl i = V.bl j) = decide (i = j) by simp]
  exact .bl _
/-! ### == and in of plain data -/
theorem rd_eqD {x y : D} (hx : Pl x) (hy : Pl y) : RD2 (rEqD K) x y (.bl (PyData.eqv x.py y.py)) := fun B H v u Q s h1 h2 q =>
  ⟨x.py, y.py, h1.dp s.sm hx.pl, h2.dp s.sm hy.pl, hx.sh, hy.sh, q _ B H (.refl s) (.bl _)⟩
theorem rd_neD {x y : D} (hx : Pl x) (hy : Pl y) : RD2 (rNeD K) x y (.bl (!PyData.eqv x.py y.py)) := fun B H v u Q s h1 h2 q =>
  ⟨x.py, y.py, h1.dp s.sm hx.pl, h2.dp s.sm hy.pl, hx.sh, hy.sh, q _ B H (.refl s) (.bl _)⟩
theorem rd_inD {x : D} {ys : List D} (hx : Pl x) (hy : Pl (.lst ys)) : RD2 (rInD K) x (.lst ys) (.bl (ys.any fun z => PyData.eqv z.py x.py)) := fun B H v u Q s h1 h2 q => by
  refine ⟨x.py, D.pyA ys, h1.dp s.sm hx.pl, ?_, hx.sh, ?_, q _ B H (.refl s) ?_⟩
  · have := h2.dp (K := K) s.sm hy.pl
    simpa only [D.py] using this
  · have := hy.sh
    simpa only [D.py] using this
  · rw [pyA_eq, List.any_map]
    exact .bl _
/-- in, a tuple of plain data -/
def rInT (K : PySem.W.Frag) : R2 := fun x y H Q => ∃ d ds, Dp K H x d ∧ Dp K H y (.tuple ds) ∧ SeqAt.shaped d = true ∧ SeqAt.shaped (.tuple ds) = true ∧ Q (.bl (ds.any fun z => PyData.eqv z d)) H
theorem op_inT (hu : X.A.units + 65 < cLine) : OpR X (compareOp .In) (rInT X.K) := by
  intro pins s σ H x y v u Q I rx ry h
  obtain ⟨d, ds, hd, he, sd, se, q⟩ := h
  obtain ⟨as, r1⟩ := Dp.reads I d x v hd rx
  obtain ⟨bs, r2⟩ := Dp.reads I (.tuple ds) y u he ry
  exact SeqAt.in_tuple_reads r2 r1 (SeqAt.canLay_of_shaped se) (SeqAt.canLay_of_shaped sd) (PyProof.Rows.room_in_shaped sd hu) ⟨.bl _, H, I, rfl, q⟩
theorem rd_inT {x : D} {ys : List D} (hx : Pl x) (hy : Pl (.tup ys)) : RD2 (rInT K) x (.tup ys) (.bl (ys.any fun z => PyData.eqv z.py x.py)) := fun B H v u Q s h1 h2 q => by
  refine ⟨x.py, D.pyA ys, h1.dp s.sm hx.pl, ?_, hx.sh, ?_, q _ B H (.refl s) ?_⟩
  · have := h2.dp (K := K) s.sm hy.pl
    simpa only [D.py] using this
  · have := hy.sh
    simpa only [D.py] using this
  · rw [pyA_eq, List.any_map]
    exact .bl _
/-! ### places -/
theorem rd_ixL {ds : List D} {i : Int} {d : D} (h : atI ds i = some d) : RD2 (rIx K) (.lst ds) (.int i) d := fun B H v u Q s h1 h2 q => by
  cases h2
  cases h1 with
  | lst ha hx =>
    rename_i a xs
    have hl := hx.length
    unfold atI at h
    rw [← hl] at h
    cases e : ixN xs.length i with
    | none => rw [e] at h; cases h
    | some j =>
      rw [e] at h
      obtain ⟨w, hw, hd⟩ := hx.at (i := j) h
      exact .inl ⟨a, xs, i, w, rfl, rfl, .of (s _ _ ha), by unfold atI; rw [e]; exact hw, q _ B H (.refl s) hd⟩
theorem rd_ixT {ds : List D} {i : Int} {d : D} (h : atI ds i = some d) : RD2 (rIx K) (.tup ds) (.int i) d := fun B H v u Q s h1 h2 q => by
  cases h2
  cases h1 with
  | tup ha hx =>
    rename_i a xs
    have hl := hx.length
    unfold atI at h
    rw [← hl] at h
    cases e : ixN xs.length i with
    | none => rw [e] at h; cases h
    | some j =>
      rw [e] at h
      obtain ⟨w, hw, hd⟩ := hx.at (i := j) h
      exact .inr (.inl ⟨a, xs, i, w, rfl, rfl, .of (s _ _ ha), by unfold atI; rw [e]; exact hw, q _ B H (.refl s) hd⟩)
theorem rd_ixS {z : Str} {i : Int} {c : Nat} (hz : z.length ≤ 100000) (h : atI z.cps.toList i = some c) : RD2 (rIx K) (.str z) (.int i) (.str ⟨#[c]⟩) := fun B H v u Q s h1 h2 q => by
  cases h2
  cases h1
  exact .inr (.inr ⟨z, i, c, rfl, rfl, Nat.le_trans hz (by decide), h, q _ B H (.refl s) (.str _)⟩)
/-! ### built-ins -/
def rLen (K : PySem.W.Frag) : List V → Hp → VK → Prop := fun xs H Q => ∃ x n, xs = [x] ∧ LenV K x H n ∧ Q (.int n) H
theorem call_lenK : CallR X (.builtin "len") (rLen X.K) := call_len
theorem rn_lenL {ds : List D} : RDn (rLen K) [.lst ds] (.int ds.length) := fun B H vs Q s h q => by
  cases h with
  | cons h1 h2 =>
    cases h2
    cases h1 with
    | lst ha hx => exact ⟨_, ds.length, rfl, .inl ⟨_, .of (s _ _ ha), hx.length.symm⟩, q _ B H (.refl s) (.int _)⟩
theorem rn_lenT {ds : List D} : RDn (rLen K) [.tup ds] (.int ds.length) := fun B H vs Q s h q => by
  cases h with
  | cons h1 h2 =>
    cases h2
    cases h1 with
    | tup ha hx => exact ⟨_, ds.length, rfl, .inr ⟨_, .of (s _ _ ha), hx.length.symm⟩, q _ B H (.refl s) (.int _)⟩
theorem rn_lenS {z : Str} (hz : z.length ≤ 100000) : RDn (rLen K) [.str z] (.int z.length) := fun B H vs Q s h q => by
  cases h with
  | cons h1 h2 =>
    cases h2
    cases h1
    exact ⟨_, z.length, rfl, ⟨Nat.le_trans hz (by decide), rfl⟩, q _ B H (.refl s) (.int _)⟩
def rAbs : List V → Hp → VK → Prop := fun xs H Q => ∃ i, xs = [.int i] ∧ Q (.int (if i < 0 then -i else i)) H
theorem call_absK : CallR X (.builtin "abs") rAbs := call_abs
theorem rn_abs {i : Int} : RDn rAbs [.int i] (.int (if i < 0 then -i else i)) := fun B H vs Q s h q => by
  cases h with
  | cons h1 h2 => cases h2; cases h1; exact ⟨i, rfl, q _ B H (.refl s) (.int _)⟩
def rInt1 : List V → Hp → VK → Prop := fun xs H Q => (∃ i, xs = [.int i] ∧ Q (.int i) H) ∨ ∃ k, xs = [.bl k] ∧ Q (.int (if k then 1 else 0)) H
theorem call_intK : CallR X (.type "int") rInt1 := call_int1
theorem rn_int {i : Int} : RDn rInt1 [.int i] (.int i) := fun B H vs Q s h q => by
  cases h with
  | cons h1 h2 => cases h2; cases h1; exact .inl ⟨i, rfl, q _ B H (.refl s) (.int _)⟩
theorem rn_intB {b : Bool} : RDn rInt1 [.bl b] (.int (if b then 1 else 0)) := fun B H vs Q s h q => by
  cases h with
  | cons h1 h2 => cases h2; cases h1; exact .inr ⟨b, rfl, q _ B H (.refl s) (.int _)⟩
def rBool1 : List V → Hp → VK → Prop := fun xs H Q => (∃ i, xs = [.int i] ∧ Q (.bl (i != 0)) H) ∨ ∃ k, xs = [.bl k] ∧ Q (.bl k) H
theorem call_boolK : CallR X (.type "bool") rBool1 := call_bool1
theorem rn_bool {i : Int} : RDn rBool1 [.int i] (.bl (i != 0)) := fun B H vs Q s h q => by
  cases h with
  | cons h1 h2 => cases h2; cases h1; exact .inl ⟨i, rfl, q _ B H (.refl s) (.bl _)⟩
def rStrI : List V → Hp → VK → Prop := fun xs H Q => ∃ i, xs = [.int i] ∧ i.natAbs.log2 < 1920 ∧ Q (.str (toString i)) H
theorem call_strK : CallR X (.type "str") rStrI := call_str_int
theorem rn_str {i : Int} (h : i.natAbs.log2 < 1920) : RDn rStrI [.int i] (.str (toString i)) := fun B H vs Q s hh q => by
  cases hh with
  | cons h1 h2 => cases h2; cases h1; exact ⟨i, rfl, h, q _ B H (.refl s) (.str _)⟩
def rMax2 : List V → Hp → VK → Prop := fun xs H Q => ∃ i j, xs = [.int i, .int j] ∧ Q (.int (if j > i then j else i)) H
theorem call_maxK (hc : X.calm = true) : CallR X (.builtin "max") rMax2 := call_max2 hc
theorem rn_max {i j : Int} : RDn rMax2 [.int i, .int j] (.int (if j > i then j else i)) := fun B H vs Q s h q => by
  cases h with
  | cons h1 h2 =>
    cases h2 with
    | cons h2 h3 => cases h3; cases h1; cases h2; exact ⟨i, j, rfl, q _ B H (.refl s) (.int _)⟩
def rMin2 : List V → Hp → VK → Prop := fun xs H Q => ∃ i j, xs = [.int i, .int j] ∧ Q (.int (if j < i then j else i)) H
theorem call_minK (hc : X.calm = true) : CallR X (.builtin "min") rMin2 := call_min2 hc
theorem rn_min {i j : Int} : RDn rMin2 [.int i, .int j] (.int (if j < i then j else i)) := fun B H vs Q s h q => by
  cases h with
  | cons h1 h2 =>
    cases h2 with
    | cons h2 h3 => cases h3; cases h1; cases h2; exact ⟨i, j, rfl, q _ B H (.refl s) (.int _)⟩
def rListOf (K : PySem.W.Frag) : List V → Hp → VK → Prop := fun xs H Q => ∃ p ys, xs = [.ref p] ∧ (SqL K H p ys ∨ SqT K H p ys) ∧ ∀ l, H l = none → Q (.ref l) (upd H l (.lst ys))
theorem call_listK : CallR X (.type "list") (rListOf X.K) := call_list_of
theorem rn_list {x : D} {ds : List D} (hx : x = .lst ds ∨ x = .tup ds) : RDn (rListOf K) [x] (.lst ds) := fun B H vs Q s h q => by
  cases h with
  | cons h1 h2 =>
    cases h2
    rename_i v
    have : ∃ p ys, v = V.ref p ∧ (SqL K H p ys ∨ SqT K H p ys) ∧ IsA B ys ds := by
      rcases hx with rfl | rfl
      · cases h1 with
        | lst ha hx => exact ⟨_, _, rfl, .inl (.of (s _ _ ha)), hx⟩
      · cases h1 with
        | tup ha hx => exact ⟨_, _, rfl, .inr (.of (s _ _ ha)), hx⟩
    obtain ⟨p, ys, rfl, hy, hd⟩ := this
    refine ⟨p, ys, rfl, hy, fun l hl => ?_⟩
    have s2 : Stp0 B H (upd B l (.lst ys)) (upd H l (.lst ys)) := .new s hl
    exact q _ _ _ s2 (.lst upd_same (hd.mono s2.up))
def rTupOf (K : PySem.W.Frag) : List V → Hp → VK → Prop := fun xs H Q => ∃ p ys, xs = [.ref p] ∧ ((SqL K H p ys ∧ ∀ l, H l = none → Q (.ref l) (upd H l (.tup ys))) ∨ (SqT K H p ys ∧ Q (.ref p) H))
theorem call_tupK : CallR X (.type "tuple") (rTupOf X.K) := call_tuple_of
theorem rn_tup {ds : List D} : RDn (rTupOf K) [.lst ds] (.tup ds) := fun B H vs Q s h q => by
  cases h with
  | cons h1 h2 =>
    cases h2
    cases h1 with
    | lst ha hx =>
      rename_i p ys
      refine ⟨p, ys, rfl, .inl ⟨.of (s _ _ ha), fun l hl => ?_⟩⟩
      have s2 : Stp0 B H (upd B l (.tup ys)) (upd H l (.tup ys)) := .new s hl
      exact q _ _ _ s2 (.tup upd_same (hx.mono s2.up))
theorem rn_tupT {ds : List D} : RDn (rTupOf K) [.tup ds] (.tup ds) := fun B H vs Q s h q => by
  cases h with
  | cons h1 h2 =>
    cases h2
    cases h1 with
    | tup ha hx => exact ⟨_, _, rfl, .inr ⟨.of (s _ _ ha), q _ B H (.refl s) (.tup ha hx)⟩⟩
theorem isA_bools {B : Hp} : ∀ {vs : List V} {bs : List Bool}, IsA B vs (bs.map D.bl) → vs = bs.map V.bl
  | _, [], h => by cases h; rfl
  | _, b :: bs, h => by
    cases h with
    | cons h1 h2 => cases h1; rw [isA_bools h2, List.map_cons]
theorem isA_strs {B : Hp} : ∀ {vs : List V} {bs : List Str}, IsA B vs (bs.map D.str) → vs = bs.map V.str
  | _, [], h => by cases h; rfl
  | _, b :: bs, h => by
    cases h with
    | cons h1 h2 => cases h1; rw [isA_strs h2, List.map_cons]
theorem isA_ints {B : Hp} : ∀ {vs : List V} {bs : List Int}, IsA B vs (bs.map D.int) → vs = bs.map V.int
  | _, [], h => by cases h; rfl
  | _, b :: bs, h => by
    cases h with
    | cons h1 h2 => cases h1; rw [isA_ints h2, List.map_cons]
theorem rn_all {bs : List Bool} : RDn (rAll K) [.lst (bs.map D.bl)] (.bl (bs.all id)) := fun B H vs Q s h q => by
  cases h with
  | cons h1 h2 =>
    cases h2
    cases h1 with
    | lst ha hx =>
      have e := isA_bools hx
      subst e
      exact ⟨_, bs, rfl, .of (s _ _ ha), q _ B H (.refl s) (.bl _)⟩
/-! ### texts -/
def rJoin (K : PySem.W.Frag) : V → List V → Hp → VK → Prop := fun x xs H Q => ∃ a p, ∃ ys : List Str, x = .str a ∧ xs = [.ref p] ∧ (SqL K H p (ys.map V.str) ∨ SqT K H p (ys.map V.str)) ∧
  (ys.map (·.length)).sum + ys.length * a.length ≤ 16777216 ∧ Q (.str (Txt.join a ys)) H
end
end Wd
/-! One rule an operator, whatever its operands are; comprehensions of two clauses; three names at once. -/
namespace Wd
open PySem L2

theorem hr65 {k : Nat} {A : Around} (h : Room k A) : A.units + 65 < cLine := by have := h.un; omega
theorem hr64 {k : Nat} {A : Around} (h : Room k A) : A.units + 64 < cLine := by have := h.un; omega
section
variable [Tab] {X : Cx} {K : PySem.W.Frag}
/-! ### + -/
def rCatS : R2 := fun x y H Q => ∃ i j, x = .str i ∧ y = .str j ∧ i.length + j.length ≤ sizeLine ∧ Q (.str (i ++ j)) H
theorem op_catS : OpR X (binaryOp .Add) rCatS := op_add_str
def rAddI : R2 := rI0 fun i j => .int (i + j)
def rAddU (K : PySem.W.Frag) : R2 := fun x y H Q => rAddI x y H Q ∨ rCat x y H Q ∨ rCatA K x y H Q ∨ rCatS x y H Q
theorem op_addU : OpR X (binaryOp .Add) (rAddU X.K) := (show OpR X (binaryOp .Add) rAddI from op_add).or (op_cat.or (op_catA.or op_catS))
theorem ru_addI {i j : Int} : RD2 (rAddU K) (.int i) (.int j) (.int (i + j)) := fun B H v u Q s h1 h2 q => .inl (rd_add B H v u Q s h1 h2 q)
theorem ru_addL {a b : List D} (hz : a.length + b.length ≤ 100000) : RD2 (rAddU K) (.lst a) (.lst b) (.lst (a ++ b)) := fun B H v u Q s h1 h2 q => by
  cases h1 with
  | lst ha hx =>
    cases h2 with
    | lst hb hy =>
      rename_i p xs p2 ys
      refine .inr (.inl ⟨p, p2, xs, ys, rfl, rfl, s _ _ ha, s _ _ hb, by rw [hx.length, hy.length]; exact Nat.le_trans hz (by decide), fun l hl => ?_⟩)
      have s2 : Stp0 B H (upd B l (.lst (xs ++ ys))) (upd H l (.lst (xs ++ ys))) := .new s hl
      exact q _ _ _ s2 (.lst upd_same ((hx.append hy).mono s2.up))
theorem ru_addT {a b : List D} (hz : a.length + b.length ≤ 100000) : RD2 (rAddU K) (.tup a) (.tup b) (.tup (a ++ b)) := fun B H v u Q s h1 h2 q => by
  cases h1 with
  | tup ha hx =>
    cases h2 with
    | tup hb hy =>
      rename_i p xs p2 ys
      refine .inr (.inr (.inl ⟨p, p2, xs, ys, rfl, rfl, .of (s _ _ ha), .of (s _ _ hb), by rw [hx.length, hy.length]; exact Nat.le_trans hz (by decide), fun e => ?_, fun n e => ?_, fun n m l hl => ?_⟩))
      · subst e
        cases hx
        exact q _ B H (.refl s) (.tup hb hy)
      · subst e
        cases hy
        rw [List.append_nil] at q
        exact q _ B H (.refl s) (.tup ha hx)
      · have s2 : Stp0 B H (upd B l (.tup (xs ++ ys))) (upd H l (.tup (xs ++ ys))) := .new s hl
        exact q _ _ _ s2 (.tup upd_same ((hx.append hy).mono s2.up))
theorem ru_addS {a b : Str} (hz : a.length + b.length ≤ 100000) : RD2 (rAddU K) (.str a) (.str b) (.str (a ++ b)) := fun B H v u Q s h1 h2 q => by
  cases h1
  cases h2
  exact .inr (.inr (.inr ⟨a, b, rfl, rfl, Nat.le_trans hz (by decide), q _ B H (.refl s) (.str _)⟩))
/-! ### * -/
def rMulI : R2 := rI CMul fun i j => .int (i * j)
def rMulW : R2 := rI CMulW fun i j => .int (i * j)
def rMulU : R2 := fun x y H Q => rMulI x y H Q ∨ rMulW x y H Q
theorem op_mulU : OpR X (binaryOp .Mult) rMulU := (show OpR X (binaryOp .Mult) rMulI from op_mul).or (show OpR X (binaryOp .Mult) rMulW from op_mulW)
theorem ru_mul {i j : Int} (h : CMul i j) : RD2 rMulU (.int i) (.int j) (.int (i * j)) := fun B H v u Q s h1 h2 q => .inl (rd_mul h B H v u Q s h1 h2 q)
/-! ### ==, != -/
def rEqU (K : PySem.W.Frag) : R2 := fun x y H Q => rEq x y H Q ∨ rEqD K x y H Q
def rNeU (K : PySem.W.Frag) : R2 := fun x y H Q => rNe x y H Q ∨ rNeD K x y H Q
theorem op_eqU (hu : X.A.units + 64 < cLine) : OpR X (compareOp .Eq) (rEqU X.K) := op_eq.or (op_eqD hu)
theorem op_neU (hu : X.A.units + 64 < cLine) : OpR X (compareOp .NotEq) (rNeU X.K) := op_ne.or (op_neD hu)
theorem RD2.l {r r' : R2} {x y z : D} (h : RD2 r x y z) : RD2 (fun x y H Q => r x y H Q ∨ r' x y H Q) x y z := fun B H v u Q s h1 h2 q => .inl (h B H v u Q s h1 h2 q)
theorem RD2.r {r r' : R2} {x y z : D} (h : RD2 r' x y z) : RD2 (fun x y H Q => r x y H Q ∨ r' x y H Q) x y z := fun B H v u Q s h1 h2 q => .inr (h B H v u Q s h1 h2 q)
theorem ru_eqI {i j : Int} : RD2 (rEqU K) (.int i) (.int j) (.bl (decide (i = j))) := rd_eqI.l
theorem ru_eqS {i j : Str} : RD2 (rEqU K) (.str i) (.str j) (.bl (decide (i = j))) := rd_eqS.l
theorem ru_eqB {i j : Bool} : RD2 (rEqU K) (.bl i) (.bl j) (.bl (decide (i = j))) := rd_eqB.l
theorem ru_eqD {x y : D} (hx : Pl x) (hy : Pl y) : RD2 (rEqU K) x y (.bl (PyData.eqv x.py y.py)) := (rd_eqD hx hy).r
theorem ru_neI {i j : Int} : RD2 (rNeU K) (.int i) (.int j) (.bl (!decide (i = j))) := rd_neI.l
theorem ru_neS {i j : Str} : RD2 (rNeU K) (.str i) (.str j) (.bl (!decide (i = j))) := rd_neS.l
theorem ru_neB {i j : Bool} : RD2 (rNeU K) (.bl i) (.bl j) (.bl (!decide (i = j))) := rd_neB.l
theorem ru_neD {x y : D} (hx : Pl x) (hy : Pl y) : RD2 (rNeU K) x y (.bl (!PyData.eqv x.py y.py)) := (rd_neD hx hy).r
/-! ### in -/
def rInS : R2 := fun x y H Q => ∃ (c : Nat) (z : Str), x = .str ⟨#[c]⟩ ∧ y = .str z ∧ Q (.bl (decide (c ∈ z.cps.toList))) H
theorem op_inS : OpR X (compareOp .In) rInS := op_in_sign
def rInU (K : PySem.W.Frag) : R2 := fun x y H Q => rInS x y H Q ∨ rInD K x y H Q ∨ rInT K x y H Q
theorem op_inU (hu : X.A.units + 65 < cLine) : OpR X (compareOp .In) (rInU X.K) := op_inS.or ((op_inD hu).or (op_inT hu))
theorem ru_inS {c : Nat} {z : Str} : RD2 (rInU K) (.str ⟨#[c]⟩) (.str z) (.bl (decide (c ∈ z.cps.toList))) := fun B H v u Q s h1 h2 q => by
  cases h1
  cases h2
  exact .inl ⟨c, z, rfl, rfl, q _ B H (.refl s) (.bl _)⟩
theorem ru_inD {x : D} {ys : List D} (hx : Pl x) (hy : Pl (.lst ys)) : RD2 (rInU K) x (.lst ys) (.bl (ys.any fun z => PyData.eqv z.py x.py)) := fun B H v u Q s h1 h2 q => .inr (.inl (rd_inD hx hy B H v u Q s h1 h2 q))
theorem ru_inT {x : D} {ys : List D} (hx : Pl x) (hy : Pl (.tup ys)) : RD2 (rInU K) x (.tup ys) (.bl (ys.any fun z => PyData.eqv z.py x.py)) := fun B H v u Q s h1 h2 q => .inr (.inr (rd_inT hx hy B H v u Q s h1 h2 q))
/-! ### - -/
theorem rd1_neg {i : Int} : RD1 (rU fun i => .int (-i)) (.int i) (.int (-i)) := fun B H v Q s h1 q => by
  cases h1
  exact ⟨i, rfl, q _ B H (.refl s) (.int _)⟩
/-! ### sorted of pairs of ints that are ascending when sorted: the answer is given -/
def ltI (a b : Int × Int) : Bool := SrtO.lexB a b
def prD (p : Int × Int) : D := .tup [.int p.1, .int p.2]
end
end Wd
/-! What operators give, as functions; that the machine gives it. -/
namespace Wd
open PySem L2
/-! ### numbers and + -/
def addF : D → D → Option D
  | .int i, .int j => some (.int (i + j))
  | .lst a, .lst b => if a.length + b.length ≤ 100000 then some (.lst (a ++ b)) else none
  | .tup a, .tup b => if a.length + b.length ≤ 100000 then some (.tup (a ++ b)) else none
  | .str a, .str b => if a.length + b.length ≤ 100000 then some (.str (a ++ b)) else none
  | _, _ => none
def subF : D → D → Option D
  | .int i, .int j => some (.int (i - j))
  | _, _ => none
def smlI (i : Int) : Bool := decide (-(2 ^ 64) < i) && decide (i < 2 ^ 64)
def mulF : D → D → Option D
  | .int i, .int j => if smlI i || smlI j || decide (i.natAbs.log2 + j.natAbs.log2 < 1000000) then some (.int (i * j)) else none
  | .lst a, .int k => if decide (0 ≤ k) && decide (k ≤ 1000) && decide (a.length ≤ 1000) then some (.lst (List.replicate k.toNat a).flatten) else none
  | .tup a, .int k => if decide (2 ≤ k) && decide (k ≤ 1000) && decide (a.length ≤ 1000) && !a.isEmpty then some (.tup (List.replicate k.toNat a).flatten) else none
  | _, _ => none
def modF : D → D → Option D
  | .int i, .int j => if 0 < j then some (.int (i % j)) else none
  | _, _ => none
def divF : D → D → Option D
  | .int i, .int j => if decide (0 < j) && decide (j < 1073741824) then some (.int (i / j)) else none
  | _, _ => none
def powF : D → D → Option D
  | .int i, .int j => if decide (0 ≤ j) && decide (j ≤ 1000) && decide (i.natAbs < 2 ^ 2000) then some (.int (i ^ j.toNat)) else none
  | _, _ => none
/-! ### order -/
def intsL : List D → Option (List Int)
  | [] => some []
  | .int i :: r => (intsL r).map (i :: ·)
  | _ => none
def ltF : D → D → Option D
  | .int i, .int j => some (.bl (decide (i < j)))
  | .tup a, .tup b => match intsL a, intsL b with
    | some x, some y => some (.bl (HT.lexLt x y))
    | _, _ => none
  | _, _ => none
def leF : D → D → Option D
  | .int i, .int j => some (.bl (decide (i ≤ j)))
  | _, _ => none
def gtF : D → D → Option D
  | .int i, .int j => some (.bl (decide (j < i)))
  | _, _ => none
def geF : D → D → Option D
  | .int i, .int j => some (.bl (decide (j ≤ i)))
  | _, _ => none
/-! ### ==, in, of plain data -/
def plB (d : D) : Bool := d.plain && SeqAt.shaped d.py
theorem plB_pl {d : D} (h : plB d = true) : Pl d := by
  unfold plB at h
  rw [Bool.and_eq_true] at h
  exact ⟨h.1, h.2⟩
theorem PlN.b {n : Nat} {d : D} (h : PlN n d) (hn : n ≤ 64 := by decide) : plB d = true := by
  have := h.to hn
  unfold plB
  rw [this.pl, this.sh]
  rfl
def eqB (x y : D) : Option Bool := match x, y with
  | .int i, .int j => some (decide (i = j))
  | .str i, .str j => some (decide (i = j))
  | .bl i, .bl j => some (decide (i = j))
  | x, y => if plB x && plB y then some (PyData.eqv x.py y.py) else none
def eqF (x y : D) : Option D := (eqB x y).map .bl
def neF (x y : D) : Option D := (eqB x y).map fun b => .bl (!b)
def sgn : D → Option Nat
  | .str ⟨⟨[c]⟩⟩ => some c
  | _ => none
def inB (x y : D) : Option Bool := match y with
  | .str z => (sgn x).map fun c => decide (c ∈ z.cps.toList)
  | .lst ys => if plB x && plB (.lst ys) then some (ys.any fun z => PyData.eqv z.py x.py) else none
  | .tup ys => if plB x && plB (.tup ys) then some (ys.any fun z => PyData.eqv z.py x.py) else none
  | _ => none
def inF (x y : D) : Option D := (inB x y).map .bl
def notInF (x y : D) : Option D := (inB x y).map fun b => .bl (!b)
def D.isNon : D → Bool
  | .non => true
  | _ => false
def D.isSeq : D → Bool
  | .lst _ => true
  | .tup _ => true
  | _ => false
def isNF (x y : D) : Option D := match y with
  | .non => some (.bl x.isNon)
  | _ => none
def isNotNF (x y : D) : Option D := match y with
  | .non => some (.bl (!x.isNon))
  | _ => none
def negF : D → Option D
  | .int i => some (.int (-i))
  | _ => none
/-! ### places -/
def ixF (x y : D) : Option D := match x, y with
  | .lst ds, .int i => atI ds i
  | .tup ds, .int i => atI ds i
  | .scr ds, .int i => atI ds i
  | .str z, .int i => if z.length ≤ 100000 then (atI z.cps.toList i).map fun c => .str ⟨#[c]⟩ else none
  | _, _ => none
def cutD (ds : List D) (lo hi : Option Int) : List D := (ds.drop (HT.sIx ds.length 0 lo)).take (HT.sIx ds.length ds.length hi - HT.sIx ds.length 0 lo)
def slF (x : D) (lo hi : Option Int) : Option D := match x with
  | .lst ds => some (.lst (cutD ds lo hi))
  | .tup ds => some (.tup (cutD ds lo hi))
  | .str z => if z.length ≤ 100000 then some (.str (cutS z lo hi)) else none
  | _ => none
/-! ### built-ins -/
def lenF : List D → Option D
  | [.lst ds] => some (.int ds.length)
  | [.tup ds] => some (.int ds.length)
  | [.scr ds] => some (.int ds.length)
  | [.str z] => if z.length ≤ 100000 then some (.int z.length) else none
  | _ => none
def absF : List D → Option D
  | [.int i] => some (.int (if i < 0 then -i else i))
  | _ => none
def intF : List D → Option D
  | [.int i] => some (.int i)
  | [.bl b] => some (.int (if b then 1 else 0))
  | _ => none
def boolF : List D → Option D
  | [.int i] => some (.bl (i != 0))
  | [.bl b] => some (.bl b)
  | _ => none
def strF : List D → Option D
  | [.int i] => if i.natAbs.log2 < 1920 then some (.str (toString i)) else none
  | _ => none
def maxF : List D → Option D
  | [.int i, .int j] => some (.int (if j > i then j else i))
  | _ => none
def minF : List D → Option D
  | [.int i, .int j] => some (.int (if j < i then j else i))
  | _ => none
def listF : List D → Option D
  | [.lst ds] => some (.lst ds)
  | [.tup ds] => some (.lst ds)
  | _ => none
def tupF : List D → Option D
  | [.lst ds] => some (.tup ds)
  | [.tup ds] => some (.tup ds)
  | _ => none
def boolsL : List D → Option (List Bool)
  | [] => some []
  | .bl b :: r => (boolsL r).map (b :: ·)
  | _ => none
def allF : List D → Option D
  | [.lst ds] => (boolsL ds).map fun bs => .bl (bs.all id)
  | _ => none
def anyF : List D → Option D
  | [.lst ds] => (boolsL ds).map fun bs => .bl (bs.any id)
  | _ => none
def strsL : List D → Option (List Str)
  | [] => some []
  | .str x :: r => (strsL r).map (x :: ·)
  | _ => none
def joinF (a : D) (b : D) : Option D := match a, b with
  | .str a, .lst ds => match strsL ds with
    | some ys => if (ys.map (·.length)).sum + ys.length * a.length ≤ 16777216 then some (.str (Txt.join a ys)) else none
    | none => none
  | .str a, .tup ds => match strsL ds with
    | some ys => if (ys.map (·.length)).sum + ys.length * a.length ≤ 16777216 then some (.str (Txt.join a ys)) else none
    | none => none
  | _, _ => none
def reprF : List D → Option D
  | [x] => if plB x && x.py.showable && decide (x.py.depth ≤ 60) && decide (x.py.shown.length ≤ sizeLine) && x.isSeq then some (.str x.py.shown) else none
  | _ => none

theorem bools_map : ∀ {ds : List D} {bs : List Bool}, boolsL ds = some bs → ds = bs.map D.bl
  | [], bs, h => by cases h; rfl
  | d :: r, bs, h => by
    cases d with
    | bl b =>
      simp only [boolsL] at h
      cases hr : boolsL r with
      | none => rw [hr] at h; cases h
      | some cs => rw [hr] at h; cases h; rw [bools_map hr]; rfl
    | _ => cases h
theorem strs_map : ∀ {ds : List D} {bs : List Str}, strsL ds = some bs → ds = bs.map D.str
  | [], bs, h => by cases h; rfl
  | d :: r, bs, h => by
    cases d with
    | str b =>
      simp only [strsL] at h
      cases hr : strsL r with
      | none => rw [hr] at h; cases h
      | some cs => rw [hr] at h; cases h; rw [strs_map hr]; rfl
    | _ => cases h
theorem ints_map : ∀ {ds : List D} {bs : List Int}, intsL ds = some bs → ds = bs.map D.int
  | [], bs, h => by cases h; rfl
  | d :: r, bs, h => by
    cases d with
    | int b =>
      simp only [intsL] at h
      cases hr : intsL r with
      | none => rw [hr] at h; cases h
      | some cs => rw [hr] at h; cases h; rw [ints_map hr]; rfl
    | _ => cases h
@[simp] theorem bools_bl (bs : List Bool) : boolsL (bs.map D.bl) = some bs := by
  induction bs with
  | nil => rfl
  | cons b bs ih => simp only [List.map_cons, boolsL, ih, Option.map_some]
@[simp] theorem strs_str (bs : List Str) : strsL (bs.map D.str) = some bs := by
  induction bs with
  | nil => rfl
  | cons b bs ih => simp only [List.map_cons, strsL, ih, Option.map_some]
@[simp] theorem ints_int (bs : List Int) : intsL (bs.map D.int) = some bs := by
  induction bs with
  | nil => rfl
  | cons b bs ih => simp only [List.map_cons, intsL, ih, Option.map_some]
section
variable {B : Hp}
theorem IsA.cut {vs : List V} {ds : List D} (h : IsA B vs ds) (lo hi : Option Int) : IsA B (cutV vs lo hi) (cutD ds lo hi) := by
  unfold cutV cutD
  rw [h.length]
  exact (h.drop _).take _
theorem IsA.rep {vs : List V} {ds : List D} (h : IsA B vs ds) : ∀ n : Nat, IsA B (List.replicate n vs).flatten (List.replicate n ds).flatten
  | 0 => .nil
  | n + 1 => by
    rw [List.replicate_succ, List.replicate_succ, List.flatten_cons, List.flatten_cons]
    exact h.append (IsA.rep h n)
end
section
variable [Tab] {X : Cx} {K : PySem.W.Frag}
/-- more operators than one under one name -/
def rMulV (K : PySem.W.Frag) : R2 := fun x y H Q => rMulU x y H Q ∨ rRep x y H Q ∨ rRepT K x y H Q
theorem op_mulV : OpR X (binaryOp .Mult) (rMulV X.K) := op_mulU.or (op_rep.or op_repT)
def rLtU (K : PySem.W.Frag) : R2 := fun x y H Q => rI0 (fun i j => .bl (decide (i < j))) x y H Q ∨ rLtT K x y H Q
theorem op_ltU (hu : X.A.units < cLine) : OpR X (compareOp .Lt) (rLtU X.K) := op_lt.or (op_ltT hu)
def rNotInS : R2 := fun x y H Q => ∃ (c : Nat) (z : Str), x = .str ⟨#[c]⟩ ∧ y = .str z ∧ Q (.bl (!decide (c ∈ z.cps.toList))) H
theorem op_notInS : OpR X (compareOp .NotIn) rNotInS := op_notIn_sign
def rNotInU (K : PySem.W.Frag) : R2 := fun x y H Q => rNotInS x y H Q ∨ rNotInD K x y H Q
theorem op_notInU (hu : X.A.units + 65 < cLine) : OpR X (compareOp .NotIn) (rNotInU X.K) := op_notInS.or (op_notInD hu)
def rSlU (K : PySem.W.Frag) : V → Option Int → Option Int → Hp → VK → Prop := fun x lo hi H Q => rSlL K x lo hi H Q ∨ rSlA K x lo hi H Q ∨ rSlS x lo hi H Q
theorem sl_U : SlR X (rSlU X.K) := sl_list.or (sl_tupA.or sl_str)
def rIsN : R2 := fun x y H Q => y = .non ∧ Q (.bl (decide (x = .non))) H
def rNotN : R2 := fun x y H Q => y = .non ∧ Q (.bl (!decide (x = .non))) H

theorem f_add {x y z : D} (h : addF x y = some z) : RD2 (rAddU K) x y z := by
  unfold addF at h
  split at h
  · cases h; exact ru_addI
  · split at h
    · cases h; exact ru_addL (by assumption)
    · cases h
  · split at h
    · cases h; exact ru_addT (by assumption)
    · cases h
  · split at h
    · cases h; exact ru_addS (by assumption)
    · cases h
  · cases h
theorem f_sub {x y z : D} (h : subF x y = some z) : RD2 (rI0 fun i j => .int (i - j)) x y z := by
  unfold subF at h
  split at h
  · cases h; exact rd_sub
  · cases h
theorem smlI_iff {i : Int} (h : smlI i = true) : -(2 ^ 64) < i ∧ i < 2 ^ 64 := by
  unfold smlI at h
  simpa using h
theorem f_mul {x y z : D} (h : mulF x y = some z) : RD2 (rMulV K) x y z := by
  unfold mulF at h
  split at h
  · rename_i i j
    split at h
    · rename_i hc
      cases h
      simp only [Bool.or_eq_true, decide_eq_true_eq] at hc
      intro B H v u Q s h1 h2 q
      rcases hc with (hc | hc) | hc
      · exact .inl (.inl (rd_mul (.inl (smlI_iff hc)) B H v u Q s h1 h2 q))
      · exact .inl (.inl (rd_mul (.inr (smlI_iff hc)) B H v u Q s h1 h2 q))
      · exact .inl (.inr (rd_I (C := CMulW) (g := fun i j => .int (i * j)) hc (fun _ => .int _) B H v u Q s h1 h2 q))
    · cases h
  · rename_i a k
    split at h
    · rename_i hc
      cases h
      simp only [Bool.and_eq_true, decide_eq_true_eq] at hc
      intro B H v u Q s h1 h2 q
      cases h2
      cases h1 with
      | lst ha hx =>
        rename_i p xs
        have hl := hx.length
        refine .inr (.inl ⟨p, k, xs, rfl, rfl, s _ _ ha, by omega, by omega, ?_, fun l hp => ?_⟩)
        · have : xs.length * k.toNat ≤ 1000 * 1000 := Nat.mul_le_mul (by omega) (by omega)
          exact Nat.le_trans this (by decide)
        · have s2 : Stp0 B H (upd B l (.lst (List.replicate k.toNat xs).flatten)) (upd H l (.lst (List.replicate k.toNat xs).flatten)) := .new s hp
          exact q _ _ _ s2 (.lst upd_same ((hx.rep _).mono s2.up))
    · cases h
  · rename_i a k
    split at h
    · rename_i hc
      cases h
      simp only [Bool.and_eq_true, decide_eq_true_eq, Bool.not_eq_true', List.isEmpty_eq_false_iff] at hc
      intro B H v u Q s h1 h2 q
      cases h2
      cases h1 with
      | tup ha hx =>
        rename_i p xs
        have hl := hx.length
        refine .inr (.inr ⟨p, k, xs, rfl, rfl, .of (s _ _ ha), fun z => ?_, by omega, by omega, by omega, fun l hp => ?_⟩)
        · subst z
          exact hc.2 (List.length_eq_zero_iff.mp (by simpa using hl.symm))
        · have s2 : Stp0 B H (upd B l (.tup (List.replicate k.toNat xs).flatten)) (upd H l (.tup (List.replicate k.toNat xs).flatten)) := .new s hp
          exact q _ _ _ s2 (.tup upd_same ((hx.rep _).mono s2.up))
    · cases h
  · cases h
theorem f_mod {x y z : D} (h : modF x y = some z) : RD2 (rI (fun _ j => 0 < j) fun i j => .int (i % j)) x y z := by
  unfold modF at h
  split at h
  · split at h
    · cases h; exact rd_mod (by assumption)
    · cases h
  · cases h
theorem f_div {x y z : D} (h : divF x y = some z) : RD2 (rI CDiv fun i j => .int (i / j)) x y z := by
  unfold divF at h
  split at h
  · split at h
    · rename_i hc
      cases h
      exact rd_div (by simpa [CDiv] using hc)
    · cases h
  · cases h
theorem powW_ok {i j : Int} (hj : 0 ≤ j) (h4 : j ≤ 1000) (h : i.natAbs < 2 ^ 2000) : CPowW i j := by
  refine ⟨hj, ?_⟩
  have hb : Builtin.Int.intBits i ≤ 2001 := by
    unfold Builtin.Int.intBits
    by_cases z : i = 0
    · subst z; decide
    · have hz : (i == 0) = false := by simpa using z
      rw [hz]
      have h2 : i.natAbs ≠ 0 := by omega
      have := (Nat.log2_lt h2).mpr h
      simp only [Bool.false_eq_true, if_false]
      omega
  calc (Builtin.Int.intBits i : Int) * j ≤ 2001 * 1000 := by
        have h1 : (Builtin.Int.intBits i : Int) ≤ 2001 := by exact_mod_cast hb
        exact Int.mul_le_mul h1 h4 hj (by decide)
    _ ≤ 2 ^ 27 := by decide
theorem f_pow {x y z : D} (h : powF x y = some z) : RD2 (rI CPowW fun i j => .int (i ^ j.toNat)) x y z := by
  unfold powF at h
  split at h
  · split at h
    · rename_i hc
      cases h
      simp only [Bool.and_eq_true, decide_eq_true_eq] at hc
      exact rd_powW (powW_ok hc.1.1 hc.1.2 hc.2)
    · cases h
  · cases h
theorem f_lt {x y z : D} (h : ltF x y = some z) : RD2 (rLtU K) x y z := by
  unfold ltF at h
  split at h
  · cases h; exact fun B H v u Q s h1 h2 q => .inl (rd_lt B H v u Q s h1 h2 q)
  · split at h
    · rename_i ha hb
      cases h
      have ea := ints_map ha
      have eb := ints_map hb
      subst ea eb
      intro B H v u Q s h1 h2 q
      cases h1 with
      | tup ga gx =>
        cases h2 with
        | tup gb gy =>
          have e1 := isA_ints gx
          have e2 := isA_ints gy
          subst e1 e2
          exact .inr ⟨_, _, _, _, rfl, rfl, .of (s _ _ ga), .of (s _ _ gb), q _ B H (.refl s) (.bl _)⟩
    · cases h
  · cases h
theorem f_le {x y z : D} (h : leF x y = some z) : RD2 (rI0 fun i j => .bl (decide (i ≤ j))) x y z := by
  unfold leF at h
  split at h
  · cases h; exact rd_le
  · cases h
theorem f_gt {x y z : D} (h : gtF x y = some z) : RD2 (rI0 fun i j => .bl (decide (j < i))) x y z := by
  unfold gtF at h
  split at h
  · cases h; exact rd_gt
  · cases h
theorem f_ge {x y z : D} (h : geF x y = some z) : RD2 (rI0 fun i j => .bl (decide (j ≤ i))) x y z := by
  unfold geF at h
  split at h
  · cases h; exact rd_ge
  · cases h
theorem eqB_ok {x y : D} {b : Bool} (h : eqB x y = some b) : RD2 (rEqU K) x y (.bl b) ∧ RD2 (rNeU K) x y (.bl (!b)) := by
  unfold eqB at h
  split at h
  · cases h; exact ⟨ru_eqI, ru_neI⟩
  · cases h; exact ⟨ru_eqS, ru_neS⟩
  · cases h; exact ⟨ru_eqB, ru_neB⟩
  · split at h
    · rename_i hc
      cases h
      rw [Bool.and_eq_true] at hc
      exact ⟨ru_eqD (plB_pl hc.1) (plB_pl hc.2), ru_neD (plB_pl hc.1) (plB_pl hc.2)⟩
    · cases h
theorem f_eq {x y z : D} (h : eqF x y = some z) : RD2 (rEqU K) x y z := by
  unfold eqF at h
  cases e : eqB x y with
  | none => rw [e] at h; cases h
  | some b => rw [e] at h; cases h; exact (eqB_ok e).1
theorem f_ne {x y z : D} (h : neF x y = some z) : RD2 (rNeU K) x y z := by
  unfold neF at h
  cases e : eqB x y with
  | none => rw [e] at h; cases h
  | some b => rw [e] at h; cases h; exact (eqB_ok e).2
theorem sgn_of {x : D} {c : Nat} (h : sgn x = some c) : x = .str ⟨#[c]⟩ := by
  unfold sgn at h
  split at h
  · cases h; rfl
  · cases h
theorem rd_notInS {c : Nat} {z : Str} : RD2 rNotInS (.str ⟨#[c]⟩) (.str z) (.bl (!decide (c ∈ z.cps.toList))) := fun B H v u Q s h1 h2 q => by
  cases h1
  cases h2
  exact ⟨c, z, rfl, rfl, q _ B H (.refl s) (.bl _)⟩
theorem f_in {x y z : D} (h : inF x y = some z) : RD2 (rInU K) x y z := by
  unfold inF inB at h
  split at h
  · cases e : sgn x with
    | none => rw [e] at h; cases h
    | some c => rw [e] at h; cases h; rw [sgn_of e]; exact ru_inS
  · split at h
    · rename_i hc
      cases h
      rw [Bool.and_eq_true] at hc
      exact ru_inD (plB_pl hc.1) (plB_pl hc.2)
    · cases h
  · split at h
    · rename_i hc
      cases h
      rw [Bool.and_eq_true] at hc
      exact ru_inT (plB_pl hc.1) (plB_pl hc.2)
    · cases h
  · cases h
theorem v_non {B : Hp} {v : V} {x : D} (h : Is B v x) : decide (v = .non) = x.isNon := by cases h <;> simp [D.isNon]
theorem f_isN {x y z : D} (h : isNF x y = some z) : RD2 rIsN x y z := fun B H v u Q s h1 h2 q => by
  unfold isNF at h
  split at h
  · cases h
    cases h2
    exact ⟨rfl, q _ B H (.refl s) (by rw [v_non h1]; exact .bl _)⟩
  · cases h
theorem f_notN {x y z : D} (h : isNotNF x y = some z) : RD2 rNotN x y z := fun B H v u Q s h1 h2 q => by
  unfold isNotNF at h
  split at h
  · cases h
    cases h2
    exact ⟨rfl, q _ B H (.refl s) (by rw [v_non h1]; exact .bl _)⟩
  · cases h
theorem f_neg {x z : D} (h : negF x = some z) : RD1 (rU fun i => .int (-i)) x z := by
  unfold negF at h
  split at h
  · cases h; exact rd1_neg
  · cases h
theorem rd_ixC {ds : List D} {i : Int} {d : D} (h : atI ds i = some d) : RD2 (rIx K) (.scr ds) (.int i) d := fun B H v u Q s h1 h2 q => by
  cases h2
  cases h1 with
  | scr ha hx =>
    rename_i a xs o
    have hl := hx.length
    unfold atI at h
    rw [← hl] at h
    cases e : ixN xs.length i with
    | none => rw [e] at h; cases h
    | some j =>
      rw [e] at h
      obtain ⟨w, hw, hd⟩ := hx.at (i := j) h
      exact .inl ⟨a, xs, i, w, rfl, rfl, .inl (.inr ⟨_, s _ _ ha⟩), by unfold atI; rw [e]; exact hw, q _ B H (.refl s) hd⟩
theorem f_ix {x y z : D} (h : ixF x y = some z) : RD2 (rIx K) x y z := by
  unfold ixF at h
  split at h
  · exact rd_ixL h
  · exact rd_ixT h
  · exact rd_ixC h
  · split at h
    · rename_i s i hz
      cases e : atI s.cps.toList i with
      | none => rw [e] at h; cases h
      | some c => rw [e] at h; cases h; exact rd_ixS hz e
    · cases h
  · cases h
theorem f_len {xs : List D} {z : D} (h : lenF xs = some z) : RDn (rLen K) xs z := by
  unfold lenF at h
  split at h
  · cases h; exact rn_lenL
  · cases h; exact rn_lenT
  · rename_i ds
    cases h
    intro B H vs Q s h q
    cases h with
    | cons h1 h2 =>
      cases h2
      cases h1 with
      | scr ha hx => exact ⟨_, ds.length, rfl, .inl ⟨_, .inl (.inr ⟨_, s _ _ ha⟩), hx.length.symm⟩, q _ B H (.refl s) (.int _)⟩
  · split at h
    · cases h; exact rn_lenS (by assumption)
    · cases h
  · cases h
theorem f_abs {xs : List D} {z : D} (h : absF xs = some z) : RDn rAbs xs z := by
  unfold absF at h
  split at h
  · cases h; exact rn_abs
  · cases h
theorem f_int {xs : List D} {z : D} (h : intF xs = some z) : RDn rInt1 xs z := by
  unfold intF at h
  split at h
  · cases h; exact rn_int
  · cases h; exact rn_intB
  · cases h
theorem rn_boolB {b : Bool} : RDn rBool1 [.bl b] (.bl b) := fun B H vs Q s h q => by
  cases h with
  | cons h1 h2 => cases h2; cases h1; exact .inr ⟨b, rfl, q _ B H (.refl s) (.bl _)⟩
theorem f_bool {xs : List D} {z : D} (h : boolF xs = some z) : RDn rBool1 xs z := by
  unfold boolF at h
  split at h
  · cases h; exact rn_bool
  · cases h; exact rn_boolB
  · cases h
theorem f_str {xs : List D} {z : D} (h : strF xs = some z) : RDn rStrI xs z := by
  unfold strF at h
  split at h
  · split at h
    · cases h; exact rn_str (by assumption)
    · cases h
  · cases h
theorem f_max {xs : List D} {z : D} (h : maxF xs = some z) : RDn rMax2 xs z := by
  unfold maxF at h
  split at h
  · cases h; exact rn_max
  · cases h
theorem f_min {xs : List D} {z : D} (h : minF xs = some z) : RDn rMin2 xs z := by
  unfold minF at h
  split at h
  · cases h; exact rn_min
  · cases h
theorem f_list {xs : List D} {z : D} (h : listF xs = some z) : RDn (rListOf K) xs z := by
  unfold listF at h
  split at h
  · cases h; exact rn_list (.inl rfl)
  · cases h; exact rn_list (.inr rfl)
  · cases h
theorem f_tup {xs : List D} {z : D} (h : tupF xs = some z) : RDn (rTupOf K) xs z := by
  unfold tupF at h
  split at h
  · cases h; exact rn_tup
  · cases h; exact rn_tupT
  · cases h
theorem f_all {xs : List D} {z : D} (h : allF xs = some z) : RDn (rAll K) xs z := by
  unfold allF at h
  split at h
  · rename_i ds
    cases e : boolsL ds with
    | none => rw [e] at h; cases h
    | some bs => rw [e] at h; cases h; rw [bools_map e]; exact rn_all
  · cases h
theorem rn_any {bs : List Bool} : RDn (rAny K) [.lst (bs.map D.bl)] (.bl (bs.any id)) := fun B H vs Q s h q => by
  cases h with
  | cons h1 h2 =>
    cases h2
    cases h1 with
    | lst ha hx =>
      have e := isA_bools hx
      subst e
      exact ⟨_, bs, rfl, .of (s _ _ ha), q _ B H (.refl s) (.bl _)⟩
theorem f_any {xs : List D} {z : D} (h : anyF xs = some z) : RDn (rAny K) xs z := by
  unfold anyF at h
  split at h
  · rename_i ds
    cases e : boolsL ds with
    | none => rw [e] at h; cases h
    | some bs => rw [e] at h; cases h; rw [bools_map e]; exact rn_any
  · cases h
/-- repr of plain data -/
theorem rn_repr {x : D} (hx : Pl x) (hl : x.py.showable = true) (hd : x.py.depth ≤ 60) (hz : x.py.shown.length ≤ sizeLine) (hr : (∃ ds, x = .lst ds) ∨ ∃ ds, x = .tup ds) : RDn (rReprD K) [x] (.str x.py.shown) := fun B H vs Q s h q => by
  cases h with
  | cons h1 h2 =>
    cases h2
    rename_i v
    have hv : ∃ a, v = V.ref a := by
      rcases hr with ⟨ds, rfl⟩ | ⟨ds, rfl⟩ <;> (cases h1; exact ⟨_, rfl⟩)
    obtain ⟨a, rfl⟩ := hv
    have lay : x.py.canLay0 = true := SeqAt.canLay_of_shaped hx.sh
    exact ⟨a, x.py, rfl, h1.dp s.sm hx.pl, hl, PyData.hasDict_of_canLay _ lay, hd, hz, q _ B H (.refl s) (.str _)⟩
theorem f_repr {xs : List D} {z : D} (h : reprF xs = some z) : RDn (rReprD K) xs z := by
  unfold reprF at h
  split at h
  · rename_i x
    split at h
    · rename_i hc
      cases h
      simp only [Bool.and_eq_true, decide_eq_true_eq] at hc
      obtain ⟨⟨⟨⟨h1, h2⟩, h3⟩, h4⟩, h5⟩ := hc
      refine rn_repr (plB_pl h1) h2 h3 h4 ?_
      cases x <;> first | exact .inl ⟨_, rfl⟩ | exact .inr ⟨_, rfl⟩ | cases h5
    · cases h
  · cases h
section
variable {W : WX} {te to : TE} {me mo : M D} {tl th : TO} {ml mh : M (Option Int)}
/-- join -/
def mJoin (mo me : M D) : M D := bnd mo fun x => match x with
  | .str a => bnd me fun y => lif (joinF (.str a) y)
  | _ => fun _ => none
theorem ex_join (ho : EX W to mo) (he : EX W te me) : EX W (tM1 (rJoin K) to te) (mJoin mo me) :=
  ex_bnd (t := fun x σ H1 Q => (∃ a, x = .str a) ∧ te σ H1 fun y H2 => rJoin K x [y] H2 Q) ho fun x ε r e h => by
    split at h
    · rename_i a
      obtain ⟨kp, run⟩ := exv_bnd (W := W) (t := fun x y σ H2 Q => rJoin K x [y] H2 Q) (x := .str a) he (fun y ε r e h => by
        obtain ⟨z, hz, rfl, rfl⟩ := lif_inv h
        refine ⟨.refl _, fun B H σ Q v w k i j g => ?_⟩
        unfold joinF at hz
        split at hz
        · rename_i a' ds ea
          cases ea
          split at hz
          · rename_i ys hys
            split at hz
            · rename_i hz2
              cases hz
              have := strs_map hys
              subst this
              cases i
              cases j with
              | lst ha hx =>
                have e := isA_strs hx
                subst e
                exact ⟨a, _, ys, rfl, rfl, .inl (.of (k.sub _ _ ha)), hz2, g B H (.refl k.sub) k _ (.str _)⟩
            · cases hz
          · cases hz
        · rename_i a' ds ea
          cases ea
          split at hz
          · rename_i ys hys
            split at hz
            · rename_i hz2
              cases hz
              have := strs_map hys
              subst this
              cases i
              cases j with
              | tup ha hx =>
                have e := isA_strs hx
                subst e
                exact ⟨a, _, ys, rfl, rfl, .inr (.of (k.sub _ _ ha)), hz2, g B H (.refl k.sub) k _ (.str _)⟩
            · cases hz
          · cases hz
        · cases hz) ε r e h
      refine ⟨kp, fun B H σ Q v k i g => ?_⟩
      have r2 := run B H σ Q v k i g
      cases i
      exact ⟨⟨a, rfl⟩, r2⟩
    · cases h
/-- a slice's part -/
structure EO (W : WX) (to : TO) (m : M (Option Int)) : Prop where
  run : ∀ ε r e, m ε = some (r, e) → Keeps ε e ∧ ∀ B H σ Q, Knw B H σ ε → Got W ε e σ B H (fun o _ H' => Q o H') r → to σ H Q
theorem eo_none : EO W tNoPart (giv none) := ⟨fun ε r e h => by
  cases h
  exact ⟨.refl _, fun B H σ Q k g => g B H (.refl k.sub) k⟩⟩
def mPart (me : M D) : M (Option Int) := bnd me fun x => match x with
  | .int i => giv (some i)
  | _ => fun _ => none
theorem eo_some (he : EX W te me) : EO W (tPart te) (mPart me) := ⟨fun ε r e h => by
  rcases bnd_inv h with ⟨C, d, e1, rfl⟩ | ⟨x, e1, h1, h2⟩
  · obtain ⟨kp, run⟩ := he.run _ _ _ e1
    exact ⟨kp, fun B H σ Q k g => run B H σ _ k g⟩
  · obtain ⟨kp, run⟩ := he.run _ _ _ h1
    cases x <;> simp only [reduceCtorEq] at h2
    cases h2
    refine ⟨kp, fun B H σ Q k g => run B H σ _ k fun B1 H1 s1 k1 v i1 => ?_⟩
    cases i1
    exact ⟨_, rfl, g B1 H1 s1 k1⟩⟩
theorem f_sl {x z : D} {lo hi : Option Int} (h : slF x lo hi = some z) : ∀ (B H : Hp) (v : V) (Q : VK), Sb B H → Is B v x → (∀ w B' H', Stp0 B H B' H' → Is B' w z → Q w H') → rSlU K v lo hi H Q := fun B H v Q s i q => by
  unfold slF at h
  split at h
  · cases h
    cases i with
    | lst ha hx =>
      rename_i a xs
      refine .inl ⟨_, _, rfl, .of (s _ _ ha), fun p hp => ?_⟩
      have s2 : Stp0 B H (upd B p (.lst (cutV xs lo hi))) (upd H p (.lst (cutV xs lo hi))) := .new s hp
      exact q _ _ _ s2 (.lst upd_same ((hx.cut lo hi).mono s2.up))
  · cases h
    cases i with
    | tup ha hx =>
      rename_i a xs
      refine .inr (.inl ⟨_, _, rfl, .of (s _ _ ha), fun hc => ?_, fun hc p hp => ?_⟩)
      · refine q _ B H (.refl s) ?_
        have e := hx.length
        unfold cutD
        rw [← e, hc.1, hc.2, List.drop_zero, Nat.sub_zero, e, List.take_length]
        exact .tup ha hx
      · have s2 : Stp0 B H (upd B p (.tup (cutV xs lo hi))) (upd H p (.tup (cutV xs lo hi))) := .new s hp
        exact q _ _ _ s2 (.tup upd_same ((hx.cut lo hi).mono s2.up))
  · split at h
    · rename_i hz
      cases h
      cases i
      exact .inr (.inr ⟨_, rfl, Nat.le_trans hz (by decide), q _ B H (.refl s) (.str _)⟩)
    · cases h
  · cases h
def mSl (me : M D) (ml mh : M (Option Int)) : M D := bnd me fun x => bnd ml fun lo => bnd mh fun hi => lif (slF x lo hi)
theorem ex_sl (he : EX W te me) (hl : EO W tl ml) (hh : EO W th mh) : EX W (tSl (rSlU K) te tl th) (mSl me ml mh) :=
  ex_bnd (t := fun x σ H1 Q => tl σ H1 fun l H2 => th σ H2 fun u H3 => rSlU K x l u H3 Q) he fun x ε r e h => by
    rcases bnd_inv h with ⟨C, d, e1, rfl⟩ | ⟨lo, e1, h1, h2⟩
    · obtain ⟨kp, run⟩ := hl.run _ _ _ e1
      exact ⟨kp, fun B H σ Q v k i g => run B H σ _ k g⟩
    · obtain ⟨kp, run⟩ := hl.run _ _ _ h1
      rcases bnd_inv h2 with ⟨C, d, e2, rfl⟩ | ⟨hi, e2, h3, h4⟩
      · obtain ⟨kq, run2⟩ := hh.run _ _ _ e2
        exact ⟨kp.trans kq, fun B H σ Q v k i g => run B H σ _ k fun B1 H1 s1 k1 => run2 B1 H1 σ _ k1 (g.step s1 kp)⟩
      · obtain ⟨kq, run2⟩ := hh.run _ _ _ h3
        obtain ⟨z, hz, rfl, rfl⟩ := lif_inv h4
        exact ⟨kp.trans kq, fun B H σ Q v k i g => run B H σ _ k fun B1 H1 s1 k1 => run2 B1 H1 σ _ k1 fun B2 H2 s2 k2 =>
          f_sl hz B2 H2 v Q k2.sub ((i.mono s1.up).mono s2.up) fun w B3 H3 s3 i3 => g B3 H3 ((s1.trans s2 fun a m => .inl (kp.mu m)).trans0 s3) (k2.step0 s3) w i3⟩
end
end
end Wd
/-! Comprehensions: what they give, and that the machine gives it. -/
namespace Wd
open PySem L2
/-- slots forgotten -/
def wipeE (ε : List Slo) : List Nat → List Slo
  | [] => ε
  | v :: vs => (wipeE ε vs).set v .no
theorem wipeE_length (ε : List Slo) : ∀ vs : List Nat, (wipeE ε vs).length = ε.length
  | [] => rfl
  | v :: vs => by unfold wipeE; rw [List.length_set, wipeE_length ε vs]
theorem wipeE_in {ε : List Slo} {j : Nat} {e : Slo} : ∀ {vs : List Nat}, j ∈ vs → (wipeE ε vs)[j]? = some e → e = .no
  | [], h, _ => by cases h
  | v :: vs, h, q => by
    unfold wipeE at q
    by_cases hv : v = j
    · subst hv
      by_cases hlt : v < (wipeE ε vs).length
      · rw [List.getElem?_set_self hlt] at q; cases q; rfl
      · rw [List.getElem?_eq_none (by rw [List.length_set]; omega)] at q; cases q
    · rw [List.getElem?_set_ne hv] at q
      exact wipeE_in (by simpa [Ne.symm hv] using h) q
theorem wipeE_out {ε : List Slo} {j : Nat} : ∀ {vs : List Nat}, j ∉ vs → (wipeE ε vs)[j]? = ε[j]?
  | [], _ => rfl
  | v :: vs, h => by
    unfold wipeE
    have h1 : v ≠ j := fun z => h (by simp [z])
    rw [List.getElem?_set_ne h1]
    exact wipeE_out fun z => h (by simp [z])
theorem wipe_in {σ : L2.St} {j : Nat} : ∀ {vs : List Nat}, j ∈ vs → ∀ v, (wipe σ vs)[j]? ≠ some (some v) := fun {vs} h v q => (wipe_some q).2 h
theorem wipe_idem {σ : L2.St} {vs : List Nat} : wipe (wipe σ vs) vs = wipe σ vs := by
  apply List.ext_getElem?
  intro j
  by_cases hj : j ∈ vs
  · have h1 : ∀ τ : L2.St, (wipe τ vs)[j]? = if j < τ.length then some none else none := fun τ => by
      by_cases hl : j < τ.length
      · rw [if_pos hl]
        have hl' : j < (wipe τ vs).length := by rw [wipe_length]; exact hl
        rw [List.getElem?_eq_getElem hl']
        cases q : (wipe τ vs)[j] with
        | none => rfl
        | some v => exact absurd (by rw [List.getElem?_eq_getElem hl', q]) (wipe_in (σ := τ) hj v)
      · rw [if_neg hl]
        exact List.getElem?_eq_none (by rw [wipe_length]; omega)
    rw [h1, h1, wipe_length]
  · rw [wipe_out hj]
theorem wipe_set {σ : L2.St} {vs : List Nat} {i : Nat} {x : Option V} (hi : i ∈ vs) : wipe (σ.set i x) vs = wipe σ vs := by
  apply List.ext_getElem?
  intro j
  by_cases hj : j ∈ vs
  · have h1 : ∀ τ : L2.St, (wipe τ vs)[j]? = if j < τ.length then some none else none := fun τ => by
      by_cases hl : j < τ.length
      · rw [if_pos hl]
        have hl' : j < (wipe τ vs).length := by rw [wipe_length]; exact hl
        rw [List.getElem?_eq_getElem hl']
        cases q : (wipe τ vs)[j] with
        | none => rfl
        | some v => exact absurd (by rw [List.getElem?_eq_getElem hl', q]) (wipe_in (σ := τ) hj v)
      · rw [if_neg hl]
        exact List.getElem?_eq_none (by rw [wipe_length]; omega)
    rw [h1, h1, List.length_set]
  · rw [wipe_out hj, wipe_out hj, List.getElem?_set_ne (fun z => hj (by rw [← z]; exact hi))]
theorem Keeps.wipe {ε : List Slo} {vs : List Nat} : Keeps ε (wipeE ε vs) := ⟨wipeE_length ε vs, fun j e q m => by
  by_cases hj : j ∈ vs
  · rw [wipeE_in hj q] at m; cases m
  · rw [wipeE_out hj] at q; exact ⟨e, q, m⟩⟩
theorem wipeE_le {ε : List Slo} {vs : List Nat} : Le (wipeE ε vs) ε := ⟨wipeE_length ε vs, fun j e q => by
  by_cases hj : j ∈ vs
  · exact .inl (wipeE_in hj q)
  · rw [wipeE_out hj] at q; exact .inr q⟩
section
variable [Tab] {B H : Hp} {σ : L2.St} {ε : List Slo} {vs : List Nat}
/-- the same slots otherwise -/
theorem Knw.slots {σ' : L2.St} (k : Knw B H σ ε) (hl : σ'.length = σ.length) (h : ∀ (j : Nat) (e : Slo), ε[j]? = some e → e ≠ .no → σ'[j]? = σ[j]?) : Knw B H σ' ε where
  sub := k.sub
  len := k.len.trans hl.symm
  dat := fun i d q => by rw [h i _ q (fun z => nomatch z)]; exact k.dat i d q
  mls := fun i d q => by rw [h i _ q (fun z => nomatch z)]; exact k.mls i d q
  mob := fun i C d q => by rw [h i _ q (fun z => nomatch z)]; exact k.mob i C d q
  apart := fun i j e e' l hij h1 h2 h3 h4 => by
    rw [h i _ h1 (fun z => by subst z; cases h2), h j _ h3 (fun z => by subst z; cases h4)]
    exact k.apart i j e e' l hij h1 h2 h3 h4
theorem Knw.wipe (k : Knw B H σ ε) : Knw B H (L2.wipe σ vs) (wipeE ε vs) :=
  (k.weak wipeE_le).slots (wipe_length σ vs) fun j e q hn => by
    by_cases hj : j ∈ vs
    · exact absurd (wipeE_in hj q) hn
    · exact wipe_out hj
theorem Knw.unwipe (k : Knw B H (L2.wipe σ vs) ε) (h : ∀ (j : Nat) (e : Slo), j ∈ vs → ε[j]? = some e → e = .no) : Knw B H σ ε :=
  k.slots (wipe_length σ vs).symm fun j e q hn => by
    by_cases hj : j ∈ vs
    · exact absurd (h j e hj q) hn
    · exact (wipe_out hj).symm
/-- an object that no slot knows changes -/
theorem Knw.out (k : Knw B H σ ε) {p : Addr} {o : HO} (hb : B p = none) (hm : ¬ Mu σ ε p) (ht : Tbs (upd H p o)) : Knw B (upd H p o) σ ε where
  sub := ⟨fun a u q => by rw [upd_ne (ne_of_none q hb)]; exact k.sub a u q, ht, k.sub.nt⟩
  len := k.len
  dat := k.dat
  mls := fun i ds q => by
    obtain ⟨l, vs, h1, h2, h3, h4⟩ := k.mls i ds q
    exact ⟨l, vs, h1, h2, by rw [upd_ne (fun z => hm (by rw [← z]; exact ⟨i, _, q, rfl, h1⟩))]; exact h3, h4⟩
  mob := fun i C gs q => by
    obtain ⟨l, dx, vs, h1, h2, h3, h4⟩ := k.mob i C gs q
    exact ⟨l, dx, vs, h1, h2, by rw [upd_ne (fun z => hm (by rw [← z]; exact ⟨i, _, q, rfl, h1⟩))]; exact h3, h4⟩
  apart := k.apart
theorem Stp.seal {S : Addr → Prop} {B0 H0 : Hp} {p : Addr} {o : HO} (s : Stp S B0 H0 B H) (h0 : H0 p = none) (hb : B p = none) (hh : H p = some o) (ho : ∀ ps, o ≠ .tbl ps := by intro ps z; cases z) : Stp S B0 H0 (upd B p o) H where
  up := fun a u q => by
    have q' := s.up a u q
    rw [upd_ne (ne_of_none q' hb)]; exact q'
  inn := ⟨fun a u q => by
    by_cases ha : a = p
    · subst ha; rw [upd_same] at q; rw [hh]; exact q
    · rw [upd_ne ha] at q; exact s.inn a u q, s.inn.tab, nt_upd s.inn.nt ho⟩
  fr := s.fr
  kp := s.kp
  nw := fun a u q => by
    by_cases ha : a = p
    · subst ha; exact .inr (.inl (fre_of h0))
    · rw [upd_ne ha] at q; exact s.nw a u q
theorem Knw.seal (k : Knw B H σ ε) {p : Addr} {o : HO} (hb : B p = none) (hh : H p = some o) (hm : ¬ Mu σ ε p) (ho : ∀ ps, o ≠ .tbl ps := by intro ps z; cases z) : Knw (upd B p o) H σ ε := by
  have up : Same B (upd B p o) := fun a u q => by rw [upd_ne (ne_of_none q hb)]; exact q
  refine ⟨⟨fun a u q => ?_, k.sub.tab, nt_upd k.sub.nt ho⟩, k.len, fun i d q => ?_, fun i ds q => ?_, fun i C gs q => ?_, k.apart⟩
  · by_cases ha : a = p
    · subst ha; rw [upd_same] at q; rw [hh]; exact q
    · rw [upd_ne ha] at q; exact k.sub a u q
  · obtain ⟨x, h1, h2⟩ := k.dat i d q
    exact ⟨x, h1, h2.mono up⟩
  · obtain ⟨l, vs, h1, h2, h3, h4⟩ := k.mls i ds q
    exact ⟨l, vs, h1, by rw [upd_ne (fun z => hm (by rw [← z]; exact ⟨i, _, q, rfl, h1⟩))]; exact h2, h3, h4.mono up⟩
  · obtain ⟨l, dx, vs, h1, h2, h3, h4⟩ := k.mob i C gs q
    exact ⟨l, dx, vs, h1, by rw [upd_ne (fun z => hm (by rw [← z]; exact ⟨i, _, q, rfl, h1⟩))]; exact h2, h3, h4.mono up⟩
theorem Stp.none {S : Addr → Prop} {B0 H0 : Hp} {p : Addr} {o : HO} (s : Stp S B0 H0 B H) (hb : B0 p = none) (hh : H0 p = some o) (ht : TF o) (hs : ¬ S p) : B p = none := by
  cases q : B p with
  | none => rfl
  | some u =>
    rcases s.nw p u q with z | z | z
    · rw [hb] at z; cases z
    · exact absurd ht (z _ hh)
    · exact absurd z hs
end


section
variable [Tab]
/-- what a comprehension, a for goes over -/
structure EI (W : WX) (wi : TI) (m : M (List D)) : Prop where
  run : ∀ ε r e, m ε = some (r, e) → Keeps ε e ∧ ∀ B H σ (R : It → Hp → Prop), Knw B H σ ε → (match r with
    | .ok ds => ∀ (J : It) (B' H' : Hp) (G : Hp → Prop) (Y : Nat → Hp → V → Hp → Prop), Stp (Mu σ ε) B H B' H' → Knw B' H' σ e → Walk J ds.length G Y → (∀ H2, Same B' H2 → G H2) →
      (∀ (i : Nat) (B1 H1 : Hp) (x : V) (H2 : Hp) (d : D), ds[i]? = some d → Same B' B1 → Sb B1 H1 → Y i H1 x H2 → ∃ B2, Stp0 B1 H1 B2 H2 ∧ Is B2 x d) → R J H'
    | .ex C d => ∀ dd B' H', Stp (Mu σ ε) B H B' H' → Knw B' H' σ e → Flies B' dd d → W (.ref C) (some dd) σ H') → wi σ H R
/-- a target stored: slots out of slots -/
def EG (g : TG) (vs : List Nat) (f : D → Sl → Option Sl) : Prop := ∀ d ε e, f d ε = some e → Keeps ε e ∧ (∀ j, j ∉ vs → e[j]? = ε[j]?) ∧ ∀ (B H : Hp) (σ : L2.St) (x : V) (R : L2.St → Hp → Prop), Knw B H σ ε → Is B x d →
  (∀ σ2, Knw B H σ2 e → wipe σ2 vs = wipe σ vs → (∀ a, Mu σ2 e a → Mu σ ε a) → R σ2 H) → g x σ H R
variable {W : WX} {i j : Nat} {vs : List Nat} {K : PySem.W.Frag} {te : TE} {me : M D} {tA : TA} {mA : M (List D)}
def gvName (i : Nat) : D → Sl → Option Sl := fun d ε => some (ε.set i (.dat d))
theorem eg_name (hi : i ∈ vs) : EG (gName i) vs (gvName i) := fun d ε e h => by
  cases h
  exact ⟨.dat, fun j hj => List.getElem?_set_ne (by rintro rfl; exact hj hi), fun B H σ x R k h q => q _ (k.set_dat h) (wipe_set hi) fun a m => m.of_set⟩
def gvPair (i j : Nat) : D → Sl → Option Sl := fun d ε => match d with
  | .tup [a, b] => some ((ε.set i (.dat a)).set j (.dat b))
  | _ => none
theorem eg_pair (hi : i ∈ vs) (hj : j ∈ vs) : EG (gTup K 2 (gCons (gName i) (gCons (gName j) gNil))) vs (gvPair i j) := fun d ε e h => by
  unfold gvPair at h
  split at h
  · rename_i a b
    cases h
    refine ⟨Keeps.dat.trans .dat, fun z hz => ?_, fun B H σ x R k h q => ?_⟩
    · rw [List.getElem?_set_ne (by rintro rfl; exact hz hj), List.getElem?_set_ne (by rintro rfl; exact hz hi)]
    · cases h with
      | tup ha hx =>
        cases hx with
        | cons h1 hx =>
          cases hx with
          | cons h2 hx =>
            cases hx
            exact ⟨_, _, rfl, .of (k.sub _ _ ha), rfl, _, _, rfl, _, _, rfl, rfl, q _ ((k.set_dat h1).set_dat h2) ((wipe_set hj).trans (wipe_set hi)) fun a m => m.of_set.of_set⟩
  · cases h

/-- sources -/
def itF : D → Option (List D)
  | .lst ds => some ds
  | _ => none
def itT : D → Option (List D)
  | .tup ds => some ds
  | _ => none
def itS : D → Option (List D)
  | .str z => some (z.cps.toList.map fun c => .str ⟨#[c]⟩)
  | _ => none
def mIt (f : D → Option (List D)) (me : M D) : M (List D) := bnd me fun x => lif (f x)
theorem ei_list (he : EX W te me) : EI W (iList K te) (mIt itF me) := ⟨fun ε r e h => by
  rcases bnd_inv h with ⟨C, d, e1, rfl⟩ | ⟨x, e1, h1, h2⟩
  · obtain ⟨kp, run⟩ := he.run _ _ _ e1
    exact ⟨kp, fun B H σ R k g => run B H σ _ k g⟩
  · obtain ⟨kp, run⟩ := he.run _ _ _ h1
    obtain ⟨ds, hds, rfl, rfl⟩ := lif_inv h2
    refine ⟨kp, fun B H σ R k g => run B H σ _ k fun B1 H1 s1 k1 v i1 => ?_⟩
    unfold itF at hds
    split at hds
    · cases hds
      cases i1 with
      | lst ha hx =>
        refine ⟨_, rfl, ⟨_, .of (k1.sub _ _ ha)⟩, g _ B1 H1 _ _ s1 k1 (hx.length ▸ walk_list) (fun H2 s => .of (s _ _ ha)) fun i B2 H2 x H3 d hd sb ss y => ?_⟩
        obtain ⟨rfl, e⟩ := y
        obtain ⟨d', hd', hI⟩ := hx.get e
        rw [hd] at hd'
        cases hd'
        exact ⟨B2, .refl ss, hI.mono sb⟩
    · cases hds⟩
theorem ei_tup (he : EX W te me) : EI W (iTup K te) (mIt itT me) := ⟨fun ε r e h => by
  rcases bnd_inv h with ⟨C, d, e1, rfl⟩ | ⟨x, e1, h1, h2⟩
  · obtain ⟨kp, run⟩ := he.run _ _ _ e1
    exact ⟨kp, fun B H σ R k g => run B H σ _ k g⟩
  · obtain ⟨kp, run⟩ := he.run _ _ _ h1
    obtain ⟨ds, hds, rfl, rfl⟩ := lif_inv h2
    refine ⟨kp, fun B H σ R k g => run B H σ _ k fun B1 H1 s1 k1 v i1 => ?_⟩
    unfold itT at hds
    split at hds
    · cases hds
      cases i1 with
      | tup ha hx =>
        refine ⟨_, rfl, ⟨_, .of (k1.sub _ _ ha)⟩, g _ B1 H1 _ _ s1 k1 (hx.length ▸ walk_tup) (fun H2 s => .of (s _ _ ha)) fun i B2 H2 x H3 d hd sb ss y => ?_⟩
        obtain ⟨rfl, e⟩ := y
        obtain ⟨d', hd', hI⟩ := hx.get e
        rw [hd] at hd'
        cases hd'
        exact ⟨B2, .refl ss, hI.mono sb⟩
    · cases hds⟩
theorem ei_str (he : EX W te me) : EI W (iStr te) (mIt itS me) := ⟨fun ε r e h => by
  rcases bnd_inv h with ⟨C, d, e1, rfl⟩ | ⟨x, e1, h1, h2⟩
  · obtain ⟨kp, run⟩ := he.run _ _ _ e1
    exact ⟨kp, fun B H σ R k g => run B H σ _ k g⟩
  · obtain ⟨kp, run⟩ := he.run _ _ _ h1
    obtain ⟨ds, hds, rfl, rfl⟩ := lif_inv h2
    refine ⟨kp, fun B H σ R k g => run B H σ _ k fun B1 H1 s1 k1 v i1 => ?_⟩
    unfold itS at hds
    split at hds
    · rename_i z
      cases hds
      cases i1
      refine ⟨z, rfl, g _ B1 H1 _ _ s1 k1 (by simpa using walk_str) (fun _ _ => True.intro) fun i B2 H2 x H3 d hd sb ss y => ?_⟩
      obtain ⟨rfl, c, hc, rfl⟩ := y
      rw [List.getElem?_map] at hd
      have hc' : z.cps.toList[i]? = some c := by simpa using hc
      rw [hc'] at hd
      cases hd
      exact ⟨B2, .refl ss, .str _⟩
    · cases hds⟩
def rngL (n : Int) : List D := (List.range n.toNat).map fun (i : Nat) => D.int (i : Int)
def rng1F : List D → Option (List D)
  | [.int n] => if decide (-1000000 ≤ n) && decide (n ≤ 1000000) then some (rngL n) else none
  | _ => none
def rng2F : List D → Option (List D)
  | [.int m, .int n] => if decide (-1000000 ≤ n) && decide (n ≤ 1000000) && decide (-1000000 ≤ m) && decide (m ≤ 1000000) then some ((List.range (n - m).toNat).map fun (i : Nat) => D.int (m + (i : Int))) else none
  | _ => none
def mItA (f : List D → Option (List D)) (mA : M (List D)) : M (List D) := bnd mA fun x => lif (f x)
theorem ei_rng1 (he : EA W tA mA) : EI W (iRng1 tA) (mItA rng1F mA) := ⟨fun ε r e h => by
  rcases bnd_inv h with ⟨C, d, e1, rfl⟩ | ⟨x, e1, h1, h2⟩
  · obtain ⟨kp, run⟩ := he.run _ _ _ e1
    exact ⟨kp, fun B H σ R k g => run B H σ _ k g⟩
  · obtain ⟨kp, run⟩ := he.run _ _ _ h1
    obtain ⟨ds, hds, rfl, rfl⟩ := lif_inv h2
    refine ⟨kp, fun B H σ R k g => run B H σ _ k fun B1 H1 s1 k1 v i1 => ?_⟩
    unfold rng1F at hds
    split at hds
    · rename_i n
      split at hds
      · rename_i hn
        simp only [Bool.and_eq_true, decide_eq_true_eq] at hn
        cases hds
        cases i1 with
        | cons h1 h2 =>
          cases h2
          cases h1
          refine ⟨n, rfl, by omega, by omega, g _ B1 H1 _ _ s1 k1 (by unfold rngL; rw [List.length_map, List.length_range]; exact walk_range) (fun _ _ => True.intro) fun i B2 H2 x H3 d hd sb ss y => ?_⟩
          obtain ⟨rfl, rfl⟩ := y
          unfold rngL at hd
          rw [List.getElem?_map] at hd
          cases hq : (List.range n.toNat)[i]? with
          | none => rw [hq] at hd; cases hd
          | some z =>
            rw [hq] at hd
            cases hd
            obtain ⟨_, hz⟩ := List.getElem?_eq_some_iff.mp hq
            rw [List.getElem_range] at hz
            subst hz
            exact ⟨B2, .refl ss, by show Is B2 (V.int (0 + (i : Int))) _; rw [Int.zero_add]; exact .int _⟩
      · cases hds
    · cases hds⟩
theorem ei_rng2 (he : EA W tA mA) : EI W (iRng2 tA) (mItA rng2F mA) := ⟨fun ε r e h => by
  rcases bnd_inv h with ⟨C, d, e1, rfl⟩ | ⟨x, e1, h1, h2⟩
  · obtain ⟨kp, run⟩ := he.run _ _ _ e1
    exact ⟨kp, fun B H σ R k g => run B H σ _ k g⟩
  · obtain ⟨kp, run⟩ := he.run _ _ _ h1
    obtain ⟨ds, hds, rfl, rfl⟩ := lif_inv h2
    refine ⟨kp, fun B H σ R k g => run B H σ _ k fun B1 H1 s1 k1 v i1 => ?_⟩
    unfold rng2F at hds
    split at hds
    · rename_i m n
      split at hds
      · rename_i hn
        simp only [Bool.and_eq_true, decide_eq_true_eq] at hn
        cases hds
        cases i1 with
        | cons h1 h2 =>
          cases h2 with
          | cons h2 h3 =>
            cases h3
            cases h1
            cases h2
            refine ⟨m, n, rfl, ⟨by omega, by omega, by omega, by omega⟩, g _ B1 H1 _ _ s1 k1 (by rw [List.length_map, List.length_range]; exact walk_range) (fun _ _ => True.intro) fun i B2 H2 x H3 d hd sb ss y => ?_⟩
            obtain ⟨rfl, rfl⟩ := y
            rw [List.getElem?_map] at hd
            cases hq : (List.range (n - m).toNat)[i]? with
            | none => rw [hq] at hd; cases hd
            | some z =>
              rw [hq] at hd
              cases hd
              obtain ⟨_, hz⟩ := List.getElem?_eq_some_iff.mp hq
              rw [List.getElem_range] at hz
              subst hz
              exact ⟨B2, .refl ss, .int _⟩
      · cases hds
    · cases hds⟩
def enumD : Nat → List D → List D
  | _, [] => []
  | n, d :: ds => .tup [.int n, d] :: enumD (n + 1) ds
theorem enumD_length : ∀ (n : Nat) (ds : List D), (enumD n ds).length = ds.length
  | _, [] => rfl
  | n, d :: ds => by simp [enumD, enumD_length (n + 1) ds]
theorem enumD_get : ∀ (n : Nat) (ds : List D) (i : Nat), (enumD n ds)[i]? = (ds[i]?).map fun d => D.tup [.int ((n + i : Nat) : Int), d]
  | n, [], i => by simp [enumD]
  | n, d :: ds, 0 => by simp [enumD]
  | n, d :: ds, i + 1 => by simp only [enumD, List.getElem?_cons_succ, enumD_get (n + 1) ds i]; rw [show n + 1 + i = n + (i + 1) by omega]
def enumF : List D → Option (List D)
  | [.lst ds] => some (enumD 0 ds)
  | _ => none
theorem ei_enum (he : EA W tA mA) : EI W (iEnum K tA) (mItA enumF mA) := ⟨fun ε r e h => by
  rcases bnd_inv h with ⟨C, d, e1, rfl⟩ | ⟨x, e1, h1, h2⟩
  · obtain ⟨kp, run⟩ := he.run _ _ _ e1
    exact ⟨kp, fun B H σ R k g => run B H σ _ k g⟩
  · obtain ⟨kp, run⟩ := he.run _ _ _ h1
    obtain ⟨ds, hds, rfl, rfl⟩ := lif_inv h2
    refine ⟨kp, fun B H σ R k g => run B H σ _ k fun B1 H1 s1 k1 v i1 => ?_⟩
    unfold enumF at hds
    split at hds
    · rename_i es
      cases hds
      cases i1 with
      | cons h1 h2 =>
        cases h2
        cases h1 with
        | lst ha hx =>
          refine ⟨_, _, rfl, SqL.of (k1.sub _ _ ha), g _ B1 H1 _ _ s1 k1 (by rw [enumD_length, ← hx.length]; exact walk_enum) (fun H2 s => SqL.of (s _ _ ha)) fun i B2 H2 x H3 d hd sb ss y => ?_⟩
          obtain ⟨T, x1, x2, rfl, hT, rfl, e1, e2⟩ := y
          cases e1
          obtain ⟨d', hd', hI⟩ := hx.get e2
          rw [enumD_get, hd'] at hd
          cases hd
          have s2 : Stp0 B2 H2 (upd B2 T (.tup [V.int i, x2])) (upd H2 T (.tup [V.int i, x2])) := .new ss hT
          exact ⟨_, s2, .tup upd_same (.cons (by rw [Nat.zero_add]; exact .int _) (.one ((hI.mono sb).mono s2.up)))⟩
    · cases hds⟩

/-- [elt for g in it if t]: item by item -/
def lcGo (g : D → Sl → Option Sl) (t : M Bool) (m : M D) (vs : List Nat) : List D → Sl → Option (List D × Sl)
  | [], ε => some ([], ε)
  | d :: r, ε => match g d ε with
    | none => none
    | some ε2 => match t ε2 with
      | some (.ok true, ε3) => (match m ε3 with
        | some (.ok y, ε4) => (lcGo g t m vs r (wipeE ε4 vs)).map fun p => (y :: p.1, p.2)
        | _ => none)
      | some (.ok false, ε3) => lcGo g t m vs r (wipeE ε3 vs)
      | _ => none
def mLc (mi : M (List D)) (g : D → Sl → Option Sl) (t : M Bool) (m : M D) (vs : List Nat) : M D := bnd mi fun ds => fun ε => match lcGo g t m vs ds (wipeE ε vs) with
  | some (l, e) => if l.length ≤ 100000 then some (.ok (.lst l), e) else none
  | none => none
theorem ex_lc {wi : TI} {g : TG} {tt : TT} {W0 : WX} {mi : M (List D)} {gv : D → Sl → Option Sl} {mt : M Bool} (hi : EI W wi mi) (hg : EG g vs gv) (ht : ET W0 tt mt) (he : EX W0 te me) : EX W (tLc wi g tt te vs) (mLc mi gv mt me vs) := ⟨fun ε r e h => by
  rcases bnd_inv h with ⟨C, d, e1, rfl⟩ | ⟨ds, e1, h1, h2⟩
  · obtain ⟨kp, run⟩ := hi.run _ _ _ e1
    exact ⟨kp, fun B H σ Q k g => run B H σ _ k g⟩
  · obtain ⟨kp, run⟩ := hi.run _ _ _ h1
    cases hL : lcGo gv mt me vs ds (wipeE e1 vs) with
    | none => rw [hL] at h2; cases h2
    | some p =>
      obtain ⟨L, e'⟩ := p
      rw [hL] at h2
      have h3 : (if L.length ≤ 100000 then some (Rs.ok (D.lst L), e') else none) = some (r, e) := h2
      split at h3
      · rename_i hlen
        cases h3
        -- the slots on the way
        have kpE : ∀ (ds : List D) (a : Sl) (l : List D) (b : Sl), lcGo gv mt me vs ds a = some (l, b) → (∀ (j : Nat) (u : Slo), j ∈ vs → a[j]? = some u → u = .no) → Keeps a b ∧ ∀ (j : Nat) (u : Slo), j ∈ vs → b[j]? = some u → u = .no := by
          intro ds
          induction ds with
          | nil => intro a l b h hn; cases h; exact ⟨.refl _, hn⟩
          | cons d r ih =>
            intro a l b h hn
            unfold lcGo at h
            cases hg1 : gv d a with
            | none => rw [hg1] at h; cases h
            | some ε2 =>
              rw [hg1] at h
              dsimp only at h
              have kg := (hg d a ε2 hg1).1
              split at h
              · rename_i ε3 ht1
                have kt := (ht.run _ _ _ ht1).1
                split at h
                · rename_i y ε4 hm1
                  have km := (he.run _ _ _ hm1).1
                  cases hr : lcGo gv mt me vs r (wipeE ε4 vs) with
                  | none => rw [hr] at h; cases h
                  | some q =>
                    rw [hr] at h
                    cases h
                    obtain ⟨k1, k2⟩ := ih _ _ _ hr fun j u hj => wipeE_in hj
                    exact ⟨((((kg.trans kt).trans km).trans .wipe).trans k1), k2⟩
                · cases h
              · rename_i ε3 ht1
                have kt := (ht.run _ _ _ ht1).1
                obtain ⟨k1, k2⟩ := ih _ _ _ h fun j u hj => wipeE_in hj
                exact ⟨((kg.trans kt).trans .wipe).trans k1, k2⟩
              · cases h
        have k0 := kpE ds _ _ _ hL fun j u hj => wipeE_in hj
        refine ⟨kp.trans (Keeps.wipe.trans k0.1), fun B H σ Q k q => ?_⟩
        refine run B H σ _ k fun J B1 H1 G Y s1 k1 w hG hY => ?_
        intro P hP
        have toBase : ∀ {a : Sl}, Keeps e1 a → ∀ x, Mu (L2.wipe σ vs) a x → Mu σ e1 x := fun {a} ka x m => by
          obtain ⟨j, u, q1, q2, q3⟩ := ka.mu m
          exact ⟨j, u, q1, q2, (wipe_some q3).1⟩
        have noP : ∀ {a : Sl}, Keeps e1 a → ¬ Mu (L2.wipe σ vs) a P := fun {a} ka m => (k1.mut_free (toBase ka P m)).2 hP
        refine lc_it w (fun i H2 => ∃ B2 acc a O rest, lcGo gv mt me vs (ds.drop i) a = some (rest, e) ∧ O ++ rest = L ∧ Keeps e1 a ∧ Knw B2 H2 (L2.wipe σ vs) a ∧ Stp (Mu σ e1) B1 H1 B2 H2 ∧ B2 P = none ∧ H2 P = some (.lst acc) ∧ IsA B2 acc O) ?_ ?_ ?_ ?_
        · refine ⟨B1, [], wipeE e1 vs, [], L, hL, rfl, .wipe, ?_, .apart k1.sub hP, free_of k1.sub hP, upd_same, .nil⟩
          exact k1.wipe.out (free_of k1.sub hP) (noP .wipe) (k1.sub.tab.new hP)
        · rintro i H2 hin ⟨B2, acc, a, O, rest, _, _, _, k2, s2, _⟩
          exact hG H2 fun b o z => k2.sub b o (s2.up b o z)
        · rintro i x H2 H3 hin ⟨B2, acc, a, O, rest, go, hO, ka, k2, s2, p2, a2, i2⟩ y
          have hd : ds[i]? = some ds[i] := List.getElem?_eq_getElem hin
          have ed : ds.drop i = ds[i] :: ds.drop (i + 1) := List.drop_eq_getElem_cons hin
          rw [ed] at go
          obtain ⟨B3, s3, x3⟩ := hY i B2 H2 x H3 ds[i] hd s2.up k2.sub y
          have k3 := k2.step0 s3
          have p3 : B3 P = none := s3.none p2 a2 tf_lst id
          have a3 := s3.fr P _ id a2 tf_lst
          have s3' := s2.trans0 s3
          unfold lcGo at go
          cases hg1 : gv ds[i] a with
          | none => rw [hg1] at go; cases go
          | some ε2 =>
            rw [hg1] at go
            dsimp only at go
            obtain ⟨kg, _, g1⟩ := hg ds[i] a ε2 hg1
            refine g1 B3 H3 _ x _ k3 x3 fun σ2 k4 hw hm => ⟨hw.trans wipe_idem, ?_⟩
            have hm2 : ∀ b, Mu σ2 ε2 b → Mu σ e1 b := fun b m => toBase ka b (hm b m)
            have np2 : ¬ Mu σ2 ε2 P := fun m => noP ka (hm P m)
            split at go
            · rename_i ε3 ht1
              obtain ⟨kt, rt⟩ := ht.run _ _ _ ht1
              refine rt B3 H3 σ2 _ k4 fun B5 H5 s5 k5 => ?_
              have p5 := s5.none p3 a3 tf_lst np2
              have a5 := s5.fr P _ np2 a3 tf_lst
              have s5' := s3'.trans s5 fun b m => .inl (hm2 b m)
              split at go
              · rename_i y ε4 hm1
                obtain ⟨km, rm⟩ := he.run _ _ _ hm1
                cases hr : lcGo gv mt me vs (ds.drop (i + 1)) (wipeE ε4 vs) with
                | none => rw [hr] at go; cases go
                | some qq =>
                  rw [hr] at go
                  obtain ⟨rest', e''⟩ := qq
                  cases go
                  show te σ2 H5 _
                  have hm3 : ∀ b, Mu σ2 ε3 b → Mu σ e1 b := fun b m => hm2 b (kt.mu m)
                  have np3 : ¬ Mu σ2 ε3 P := fun m => np2 (kt.mu m)
                  refine rm B5 H5 σ2 _ k5 fun B6 H6 s6 k6 yv y6 => ?_
                  have p6 := s6.none p5 a5 tf_lst np3
                  have a6 := s6.fr P _ np3 a5 tf_lst
                  have s6' := s5'.trans s6 fun b m => .inl (hm3 b m)
                  have i6 : IsA B6 acc O := i2.mono ((s3.up.trans s5.up).trans s6.up)
                  have hsz : acc.length ≤ 100000 := by
                    rw [i6.length]
                    have : (O ++ y :: rest').length ≤ 100000 := by rw [hO]; exact hlen
                    rw [List.length_append] at this
                    omega
                  have kw : Keeps e1 (wipeE ε4 vs) := (((ka.trans kg).trans kt).trans km).trans .wipe
                  refine ⟨acc, a6, Nat.lt_of_le_of_lt hsz (by decide), B6, acc ++ [yv], wipeE ε4 vs, O ++ [y], rest', hr, by rw [List.append_assoc]; exact hO, kw, ?_, ?_, p6, upd_same, i6.append (.one y6)⟩
                  · have k7 := k6.wipe (vs := vs)
                    rw [hw, wipe_idem] at k7
                    exact k7.out p6 (noP kw) (k6.sub.tab.write a6 nt_lst)
                  · refine ⟨s6'.up, ⟨fun b u qq => ?_, k6.sub.tab.write a6 nt_lst, k6.sub.nt⟩, fun b u hn qq nt => ?_, fun b u qq nt => ?_, s6'.nw⟩
                    · rw [upd_ne (ne_of_none qq p6)]; exact s6'.inn b u qq
                    · rw [upd_ne (ne_of_none qq hP)]; exact s6'.fr b u hn qq nt
                    · by_cases hb : b = P
                      · subst hb; exact ⟨_, upd_same, tf_lst⟩
                      · rw [upd_ne hb]; exact s6'.kp b u qq nt
              · cases go
            · rename_i ε3 ht1
              obtain ⟨kt, rt⟩ := ht.run _ _ _ ht1
              refine rt B3 H3 σ2 _ k4 fun B5 H5 s5 k5 => ?_
              have p5 := s5.none p3 a3 tf_lst np2
              have a5 := s5.fr P _ np2 a3 tf_lst
              have s5' := s3'.trans s5 fun b m => .inl (hm2 b m)
              show ∃ B2 acc, _
              refine ⟨B5, acc, wipeE ε3 vs, O, rest, go, hO, ((ka.trans kg).trans kt).trans .wipe, ?_, s5', p5, a5, i2.mono (s3.up.trans s5.up)⟩
              have k7 := k5.wipe (vs := vs)
              rw [hw, wipe_idem] at k7
              exact k7
            · cases go
        · rintro H2 ⟨B2, acc, a, O, rest, go, hO, ka, k2, s2, p2, a2, i2⟩
          rw [List.drop_length] at go
          cases go
          rw [List.append_nil] at hO
          subst hO
          have k3 := (k2.seal p2 a2 (noP ka)).unwipe k0.2
          have s3 := s2.seal hP p2 a2
          exact q _ H2 (s1.trans s3 fun b m => .inl (kp.mu m)) k3 _ (.lst upd_same (i2.mono fun b u z => by rw [upd_ne (ne_of_none z p2)]; exact z))
      · cases h3⟩
end
end Wd
/-! Statements: what they do, and that the machine does it. -/
namespace Wd
open PySem L2
/-- where a body has begun: what may change, what was known, the heap, the slot 0 that must stay -/
structure Frm where
  S : Addr → Prop
  B : Hp
  H : Hp
  pin : Option Addr
inductive Out where
  | nx
  | rt (d : D)
  | rn (ms : List D)
  | bk
  | ct
  | ex (C : Addr) (d : D)
abbrev S := Sl → Option (Out × Sl)
section
variable [Tab]
structure AtB (F : Frm) (ε : Sl) (σ : L2.St) (B H : Hp) : Prop where
  k : Knw B H σ ε
  s : Stp F.S F.B F.H B H
  m : ∀ a, Mu σ ε a → F.S a ∨ Fre F.H a
  p : ∀ p, F.pin = some p → σ[0]? = some (some (.ref p))
def At (F : Frm) (ε : Sl) (σ : L2.St) (H : Hp) : Prop := ∃ B, AtB F ε σ B H
/-- from what the slots hold on, N holds -/
def NX (F : Frm) (ε : Sl) (N : L2.St → Hp → Prop) : Prop := ∀ σ H, At F ε σ H → N σ H
/-- a return of d is good -/
def RT (F : Frm) (ε : Sl) (d : D) (rt : VK) : Prop := ∀ (σ : L2.St) (B H : Hp) (v : V), AtB F ε σ B H → Is B v d → rt v H
/-- a return of a list that is new is good -/
def RN (F : Frm) (ε : Sl) (ms : List D) (rt : VK) : Prop := ∀ (σ : L2.St) (B H : Hp) (l : Addr) (ws : List V), AtB F ε σ B H → H l = none → IsA B ws ms → rt (.ref l) (upd H l (.lst ws))
/-- an error's way out is good -/
def XT (F : Frm) (ε : Sl) (C : Addr) (d : D) (W : WX) : Prop := ∀ (σ : L2.St) (B H : Hp) (dd : Addr), AtB F ε σ B H → Flies B dd d → W (.ref C) (some dd) σ H
def Goal (E : Ends) (W : WX) (F : Frm) (e : Sl) : Out → Prop
  | .nx => NX F e E.nx
  | .rt d => RT F e d E.rt
  | .rn ms => RN F e ms E.rt
  | .bk => NX F e E.bk
  | .ct => NX F e E.ct
  | .ex C d => XT F e C d W
/-- a statement, a block -/
structure SX (pn : Bool) (W : WX) (ts : TS) (m : S) : Prop where
  run : ∀ ε o e, m ε = some (o, e) → ∀ F E, (pn = false → F.pin = none) → Goal E W F e o → NX F ε (ts E)
theorem AtB.step {F : Frm} {ε e : Sl} {σ : L2.St} {B H B1 H1 : Hp} (a : AtB F ε σ B H) (s1 : Stp (Mu σ ε) B H B1 H1) (k1 : Knw B1 H1 σ e) (kp : Keeps ε e) : AtB F e σ B1 H1 := ⟨k1, a.s.trans s1 a.m, fun x q => a.m x (kp.mu q), a.p⟩
variable {pn : Bool} {W : WX} {te ti : TE} {me mi : M D} {tA : TA} {mA : M (List D)} {t u tb : TS} {mt mu mb : S} {tc : TT} {mc : M Bool} {i j : Nat} {K : PySem.W.Frag}
/-- an expression at a place of the body -/
theorem EX.at {F : Frm} {ε e : Sl} {r : Rs D} (he : EX W te me) (h : me ε = some (r, e)) {σ : L2.St} {H : Hp} {Q : VK} (a : At F ε σ H)
    (ok : ∀ d, r = .ok d → ∀ v B1 H1, AtB F e σ B1 H1 → Is B1 v d → Q v H1) (ex : ∀ C d, r = .ex C d → XT F e C d W) : te σ H Q := by
  obtain ⟨B, a⟩ := a
  obtain ⟨kp, run⟩ := he.run _ _ _ h
  refine run B H σ Q a.k ?_
  cases r with
  | ok d => exact fun B1 H1 s1 k1 v i1 => ok d rfl v B1 H1 (a.step s1 k1 kp) i1
  | ex C d => exact fun dd B1 H1 s1 k1 f => ex C d rfl σ B1 H1 dd (a.step s1 k1 kp) f
theorem ET.at {F : Frm} {ε e : Sl} {r : Rs Bool} (he : ET W tc mc) (h : mc ε = some (r, e)) {σ : L2.St} {H : Hp} {Q : Bool → Hp → Prop} (a : At F ε σ H)
    (ok : ∀ b, r = .ok b → ∀ H1, At F e σ H1 → Q b H1) (ex : ∀ C d, r = .ex C d → XT F e C d W) : tc σ H Q := by
  obtain ⟨B, a⟩ := a
  obtain ⟨kp, run⟩ := he.run _ _ _ h
  refine run B H σ Q a.k ?_
  cases r with
  | ok d => exact fun B1 H1 s1 k1 => ok d rfl H1 ⟨B1, a.step s1 k1 kp⟩
  | ex C d => exact fun dd B1 H1 s1 k1 f => ex C d rfl σ B1 H1 dd (a.step s1 k1 kp) f
theorem EA.at {F : Frm} {ε e : Sl} {r : Rs (List D)} (he : EA W tA mA) (h : mA ε = some (r, e)) {σ : L2.St} {H : Hp} {Q : List V → Hp → Prop} (a : At F ε σ H)
    (ok : ∀ ds, r = .ok ds → ∀ vs B1 H1, AtB F e σ B1 H1 → IsA B1 vs ds → Q vs H1) (ex : ∀ C d, r = .ex C d → XT F e C d W) : tA σ H Q := by
  obtain ⟨B, a⟩ := a
  obtain ⟨kp, run⟩ := he.run _ _ _ h
  refine run B H σ Q a.k ?_
  cases r with
  | ok d => exact fun B1 H1 s1 k1 v i1 => ok d rfl v B1 H1 (a.step s1 k1 kp) i1
  | ex C d => exact fun dd B1 H1 s1 k1 f => ex C d rfl σ B1 H1 dd (a.step s1 k1 kp) f

def sNx : S := fun ε => some (.nx, ε)
theorem sx_next : SX pn W tNext sNx := ⟨fun ε o e h F E hp g => by cases h; exact g⟩
def sSeq (m n : S) : S := fun ε => match m ε with
  | none => none
  | some (.nx, e) => n e
  | some (.rt d, e) => some (.rt d, e)
  | some (.rn d, e) => some (.rn d, e)
  | some (.bk, e) => some (.bk, e)
  | some (.ct, e) => some (.ct, e)
  | some (.ex C d, e) => some (.ex C d, e)
theorem sx_seq (h1 : SX pn W t mt) (h2 : SX pn W u mu) : SX pn W (tSeq t u) (sSeq mt mu) := ⟨fun ε o e h F E hp g => by
  unfold sSeq at h
  split at h
  · cases h
  · rename_i e1 q
    exact h1.run ε .nx e1 q F { E with nx := u E } hp (h2.run e1 o e h F E hp g)
  · rename_i d e1 q
    cases h
    exact h1.run ε _ _ q F { E with nx := u E } hp g
  · rename_i d e1 q
    cases h
    exact h1.run ε _ _ q F { E with nx := u E } hp g
  · rename_i e1 q
    cases h
    exact h1.run ε _ _ q F { E with nx := u E } hp g
  · rename_i e1 q
    cases h
    exact h1.run ε _ _ q F { E with nx := u E } hp g
  · rename_i C d e1 q
    cases h
    exact h1.run ε _ _ q F { E with nx := u E } hp g⟩
/-- a value, and what becomes of it -/
def sVal (me : M D) (f : D → S) : S := fun ε => match me ε with
  | none => none
  | some (.ok d, e) => f d e
  | some (.ex C d, e) => some (.ex C d, e)
theorem sVal_inv {f : D → S} {ε e : Sl} {o : Out} (h : sVal me f ε = some (o, e)) : (∃ d e1, me ε = some (.ok d, e1) ∧ f d e1 = some (o, e)) ∨ ∃ C d, me ε = some (.ex C d, e) ∧ o = .ex C d := by
  unfold sVal at h
  split at h
  · cases h
  · exact .inl ⟨_, _, by assumption, h⟩
  · cases h; exact .inr ⟨_, _, by assumption, rfl⟩
def sAsg (me : M D) (gv : D → Sl → Option Sl) : S := sVal me fun d ε => (gv d ε).map fun e => (.nx, e)
theorem sx_asg {g : TG} {vs : List Nat} {gv : D → Sl → Option Sl} (he : EX W te me) (hg : EG g vs gv) (h0 : 0 ∉ vs ∨ pn = false) : SX pn W (tAsg te g) (sAsg me gv) := ⟨fun ε o e h F E hp G => by
  rcases sVal_inv h with ⟨d, e1, q, h2⟩ | ⟨C, d, q, rfl⟩
  · cases hg1 : gv d e1 with
    | none => rw [hg1] at h2; cases h2
    | some e2 =>
      rw [hg1] at h2
      cases h2
      obtain ⟨kg, _, run⟩ := hg d e1 _ hg1
      intro σ H a
      refine he.at q a (fun d' hd v B1 H1 a1 i1 => ?_) (fun _ _ z => nomatch z)
      cases hd
      refine run B1 H1 σ v _ a1.k i1 fun σ2 k2 hw hm => G σ2 H1 ⟨B1, k2, a1.s, fun x m => a1.m x (hm x m), fun p hq => ?_⟩
      rcases h0 with z | z
      · have p1 := a1.p p hq
        rw [← wipe_out (vs := vs) z, ← hw, wipe_out z] at p1
        exact p1
      · rw [hp z] at hq; cases hq
  · intro σ H a
    exact he.at q a (fun _ z => nomatch z) fun C' d' z => by cases z; exact G⟩
theorem eg_one (i : Nat) : EG (gName i) [i] (gvName i) := eg_name (by simp)
theorem eg_two (i j : Nat) : EG (gTup K 2 (gCons (gName i) (gCons (gName j) gNil))) [i, j] (gvPair i j) := eg_pair (by simp) (by simp)
/-- x = e -/
def sSet (i : Nat) (me : M D) : S := sAsg me (gvName i)
theorem sx_set (he : EX W te me) (h0 : 0 ∉ [i] ∨ pn = false) : SX pn W (tAsg te (gName i)) (sSet i me) := sx_asg he (eg_one i) h0
/-- a, b = e1, e2 -/
def sVals (mA : M (List D)) (f : List D → S) : S := fun ε => match mA ε with
  | none => none
  | some (.ok d, e) => f d e
  | some (.ex C d, e) => some (.ex C d, e)
theorem sVals_inv {f : List D → S} {ε e : Sl} {o : Out} (h : sVals mA f ε = some (o, e)) : (∃ d e1, mA ε = some (.ok d, e1) ∧ f d e1 = some (o, e)) ∨ ∃ C d, mA ε = some (.ex C d, e) ∧ o = .ex C d := by
  unfold sVals at h
  split at h
  · cases h
  · exact .inl ⟨_, _, by assumption, h⟩
  · cases h; exact .inr ⟨_, _, by assumption, rfl⟩
def sPar (i j : Nat) (mA : M (List D)) : S := sVals mA fun ds ε => match ds with
  | [a, b] => some (.nx, (ε.set i (.dat a)).set j (.dat b))
  | _ => none
theorem AtB.set {F : Frm} {ε : Sl} {σ : L2.St} {B H : Hp} {v : V} {d : D} (a : AtB F ε σ B H) (h : Is B v d) (hi : i ≠ 0 ∨ F.pin = none) : AtB F (ε.set i (.dat d)) (σ.set i (some v)) B H := ⟨a.k.set_dat h, a.s, fun x m => a.m x m.of_set, fun p hq => by
  rcases hi with z | z
  · rw [List.getElem?_set_ne z]; exact a.p p hq
  · rw [z] at hq; cases hq⟩
theorem slot0 {F : Frm} (h0 : i ≠ 0 ∨ pn = false) (hp : pn = false → F.pin = none) : i ≠ 0 ∨ F.pin = none := h0.imp id hp
theorem sx_par (he : EA W tA mA) (hi : i ≠ 0 ∨ pn = false) (hj : j ≠ 0 ∨ pn = false) : SX pn W (tPar i j tA) (sPar i j mA) := ⟨fun ε o e h F E hp G => by
  rcases sVals_inv h with ⟨ds, e1, q, h2⟩ | ⟨C, d, q, rfl⟩
  · split at h2
    · rename_i x y
      cases h2
      intro σ H a
      refine he.at q a (fun d' hd vs B1 H1 a1 i1 => ?_) (fun _ _ z => nomatch z)
      cases hd
      cases i1 with
      | cons g1 hx =>
        cases hx with
        | cons g2 hx =>
          cases hx
          exact ⟨_, _, rfl, G _ H1 ⟨B1, (a1.set g1 (slot0 hi hp)).set g2 (slot0 hj hp)⟩⟩
    · cases h2
  · intro σ H a
    exact he.at q a (fun _ z => nomatch z) fun C' d' z => by cases z; exact G⟩
def sPar3 (i j l : Nat) (mA : M (List D)) : S := sVals mA fun ds ε => match ds with
  | [a, b, c] => some (.nx, ((ε.set i (.dat a)).set j (.dat b)).set l (.dat c))
  | _ => none
theorem sx_par3 {l : Nat} (he : EA W tA mA) (hi : i ≠ 0 ∨ pn = false) (hj : j ≠ 0 ∨ pn = false) (hl : l ≠ 0 ∨ pn = false) : SX pn W (tPar3 i j l tA) (sPar3 i j l mA) := ⟨fun ε o e h F E hp G => by
  rcases sVals_inv h with ⟨ds, e1, q, h2⟩ | ⟨C, d, q, rfl⟩
  · split at h2
    · rename_i x y
      cases h2
      intro σ H a
      refine he.at q a (fun d' hd vs B1 H1 a1 i1 => ?_) (fun _ _ z => nomatch z)
      cases hd
      cases i1 with
      | cons g1 hx =>
        cases hx with
        | cons g2 hx =>
          cases hx with
          | cons g3 hx =>
            cases hx
            exact ⟨_, _, _, rfl, G _ H1 ⟨B1, ((a1.set g1 (slot0 hi hp)).set g2 (slot0 hj hp)).set g3 (slot0 hl hp)⟩⟩
    · cases h2
  · intro σ H a
    exact he.at q a (fun _ z => nomatch z) fun C' d' z => by cases z; exact G⟩
/-- a new list that is to grow -/
theorem AtB.newL {F : Frm} {ε : Sl} {σ : L2.St} {B H : Hp} {vs : List V} {ds : List D} {p : Addr} (a : AtB F ε σ B H) (h : IsA B vs ds) (hp : H p = none) (hi : i ≠ 0 ∨ F.pin = none) : AtB F (ε.set i (.mls ds)) (σ.set i (some (.ref p))) B (upd H p (.lst vs)) := by
  refine ⟨a.k.set_mls hp h, a.s.trans0 (.apart a.k.sub hp), fun x m => ?_, fun q hq => ?_⟩
  · obtain ⟨j, e, q1, q2, q3⟩ := m
    by_cases hj : i = j
    · subst hj
      by_cases hlt : i < σ.length
      · rw [List.getElem?_set_self hlt] at q3
        cases q3
        exact .inr (a.s.fresh (fre_of hp))
      · rw [List.getElem?_eq_none (by rw [List.length_set]; omega)] at q3; cases q3
    · rw [List.getElem?_set_ne hj] at q1 q3
      exact a.m x ⟨j, e, q1, q2, q3⟩
  · rcases hi with z | z
    · rw [List.getElem?_set_ne z]; exact a.p q hq
    · rw [z] at hq; cases hq
def sNew (i : Nat) (mA : M (List D)) : S := sVals mA fun ds ε => if ds.length ≤ 1000 then some (.nx, ε.set i (.mls ds)) else none
theorem sx_new (he : EA W tA mA) (hi : i ≠ 0 ∨ pn = false) : SX pn W (tAsg (tLst tA) (gName i)) (sNew i mA) := ⟨fun ε o e h F E hp G => by
  rcases sVals_inv h with ⟨ds, e1, q, h2⟩ | ⟨C, d, q, rfl⟩
  · split at h2
    · rename_i hl
      cases h2
      intro σ H a
      refine he.at q a (fun d' hd vs B1 H1 a1 i1 => ?_) (fun _ _ z => nomatch z)
      cases hd
      exact ⟨by rw [i1.length]; exact Nat.le_trans hl (by decide), fun x hx => G _ _ ⟨B1, a1.newL i1 hx (slot0 hi hp)⟩⟩
    · cases h2
  · intro σ H a
    exact he.at q a (fun _ z => nomatch z) fun C' d' z => by cases z; exact G⟩
/-- a, b = e, [] -/
def sParN (i j : Nat) (me : M D) : S := sVal me fun d ε => some (.nx, (ε.set i (.dat d)).set j (.mls []))
theorem sx_parN (he : EX W te me) (hi : i ≠ 0 ∨ pn = false) (hj : j ≠ 0 ∨ pn = false) : SX pn W (tPar i j (tCons te (tCons (tLst tNil) tNil))) (sParN i j me) := ⟨fun ε o e h F E hp G => by
  rcases sVal_inv h with ⟨d, e1, q, h2⟩ | ⟨C, d, q, rfl⟩
  · cases h2
    intro σ H a
    refine he.at q a (fun d' hd v B1 H1 a1 i1 => ?_) (fun _ _ z => nomatch z)
    cases hd
    exact ⟨by decide, fun x hx => ⟨_, _, rfl, G _ _ ⟨B1, (a1.set i1 (slot0 hi hp)).newL .nil hx (slot0 hj hp)⟩⟩⟩
  · intro σ H a
    exact he.at q a (fun _ z => nomatch z) fun C' d' z => by cases z; exact G⟩
/-- a changing list gets another content -/
theorem AtB.wrote {F : Frm} {ε : Sl} {σ : L2.St} {B H : Hp} {l : Addr} {ws us : List V} {ds es : List D} (a : AtB F ε σ B H) (hi : ε[i]? = some (.mls ds)) (hl : σ[i]? = some (some (.ref l))) (hu : H l = some (.lst us)) (hd : IsA B ws es) : AtB F (ε.set i (.mls es)) σ B (upd H l (.lst ws)) := by
  have hm : Mu σ ε l := ⟨i, _, hi, rfl, hl⟩
  obtain ⟨hb, _⟩ := a.k.mut_free hm
  have s1 : Stp (· = l) B H B (upd H l (.lst ws)) := .write a.k.sub rfl hb hu nt_lst
  exact ⟨a.k.wrote hi hl s1 hb upd_same hd, a.s.trans s1 fun x e => a.m x (e ▸ hm), fun x q => a.m x ((Keeps.wrote hi rfl).mu q), a.p⟩
def sApp (i : Nat) (me : M D) : S := fun ε => match ε[i]? with
  | some (.mls _) => sVal me (fun d e => match e[i]? with
    | some (.mls ds) => if ds.length ≤ 100000 then some (.nx, e.set i (.mls (ds ++ [d]))) else none
    | _ => none) ε
  | _ => none
theorem sx_app (he : EX W te me) : SX pn W (tDrop (tBM K "list" rAppend (tVar i) (tCons te tNil))) (sApp i me) := ⟨fun ε o e h F E hp G => by
  unfold sApp at h
  split at h
  · rename_i es h0
    rcases sVal_inv h with ⟨d, e1, q, h2⟩ | ⟨C, d, q, rfl⟩
    · split at h2
      · rename_i ds hi
        split at h2
        · rename_i hz
          cases h2
          intro σ H a
          have a0 := a
          obtain ⟨B, a⟩ := a
          obtain ⟨l, vs0, q1, q2, q3, _⟩ := a.k.mls i es h0
          refine ⟨_, q1, .inl ⟨rfl, _, SqL.of q3⟩, he.at q a0 (fun d' hd v B1 H1 a1 i1 => ?_) (fun _ _ z => nomatch z)⟩
          cases hd
          obtain ⟨l', vs, r1, r2, r3, r4⟩ := a1.k.mls i ds hi
          rw [q1] at r1
          cases r1
          exact ⟨l, vs, v, rfl, rfl, r3, by rw [r4.length]; exact Nat.lt_of_le_of_lt hz (by decide), G _ _ ⟨B1, a1.wrote hi q1 r3 (r4.append (.one i1))⟩⟩
        · cases h2
      · cases h2
    · intro σ H a
      have a0 := a
      obtain ⟨B, a⟩ := a
      obtain ⟨l, vs0, q1, q2, q3, _⟩ := a.k.mls i es h0
      exact ⟨_, q1, .inl ⟨rfl, _, SqL.of q3⟩, he.at q a0 (fun _ z => nomatch z) fun C' d' z => by cases z; exact G⟩
  · cases h⟩
def sExt (i : Nat) (me : M D) : S := fun ε => match ε[i]? with
  | some (.mls _) => sVal me (fun d e => match d, e[i]? with
    | .lst es, some (.mls ds) => if ds.length + es.length ≤ 100000 then some (.nx, e.set i (.mls (ds ++ es))) else none
    | _, _ => none) ε
  | _ => none
theorem sx_ext (he : EX W te me) : SX pn W (tDrop (tBM K "list" rExtend (tVar i) (tCons te tNil))) (sExt i me) := ⟨fun ε o e h F E hp G => by
  unfold sExt at h
  split at h
  · rename_i es h0
    rcases sVal_inv h with ⟨d, e1, q, h2⟩ | ⟨C, d, q, rfl⟩
    · split at h2
      · rename_i us ds hi
        split at h2
        · rename_i hz
          cases h2
          intro σ H a
          have a0 := a
          obtain ⟨B, a⟩ := a
          obtain ⟨l, vs0, q1, q2, q3, _⟩ := a.k.mls i es h0
          refine ⟨_, q1, .inl ⟨rfl, _, SqL.of q3⟩, he.at q a0 (fun d' hd v B1 H1 a1 i1 => ?_) (fun _ _ z => nomatch z)⟩
          cases hd
          obtain ⟨l', vs, r1, r2, r3, r4⟩ := a1.k.mls i ds hi
          rw [q1] at r1
          cases r1
          cases i1 with
          | lst ha hx =>
            rename_i a' xs
            exact ⟨l, a', vs, xs, rfl, rfl, r3, a1.k.sub _ _ ha, by rw [r4.length, hx.length]; exact Nat.le_trans hz (by decide), G _ _ ⟨B1, a1.wrote hi q1 r3 (r4.append hx)⟩⟩
        · cases h2
      · cases h2
    · intro σ H a
      have a0 := a
      obtain ⟨B, a⟩ := a
      obtain ⟨l, vs0, q1, q2, q3, _⟩ := a.k.mls i es h0
      exact ⟨_, q1, .inl ⟨rfl, _, SqL.of q3⟩, he.at q a0 (fun _ z => nomatch z) fun C' d' z => by cases z; exact G⟩
  · cases h⟩
/-- x[k] = e, x a list that changes -/
def sItem (i : Nat) (me mi : M D) : S := sVal me fun d ε => match ε[i]? with
  | some (.mls _) => sVal mi (fun c e => match c, e[i]? with
    | .int c, some (.mls ds) => (ixN ds.length c).map fun j => (.nx, e.set i (.mls (ds.set j d)))
    | _, _ => none) ε
  | _ => none
theorem sx_item (he : EX W te me) (hk : EX W ti mi) : SX pn W (tAsg te (gSub (tVar i) ti rSetL)) (sItem i me mi) := ⟨fun ε o e h F E hp G => by
  rcases sVal_inv h with ⟨d, e1, q, h2⟩ | ⟨C, d, q, rfl⟩
  · split at h2
    · rename_i es h0
      rcases sVal_inv h2 with ⟨c, e2, q', h3⟩ | ⟨C, d', q', rfl⟩
      · split at h3
        · rename_i c ds hi
          cases hj : ixN ds.length c with
          | none => rw [hj] at h3; cases h3
          | some z =>
            rw [hj] at h3
            cases h3
            intro σ H a
            refine he.at q a (fun d' hd v B1 H1 a1 i1 => ?_) (fun _ _ z => nomatch z)
            cases hd
            obtain ⟨l, vs0, q1, q2, q3, _⟩ := a1.k.mls i es h0
            refine ⟨_, q1, ?_⟩
            obtain ⟨kp, run⟩ := hk.run _ _ _ q'
            refine run B1 H1 σ _ a1.k fun B2 H2 s2 k2 w i2 => ?_
            have a2 := a1.step s2 k2 kp
            obtain ⟨l', vs, r1, r2, r3, r4⟩ := k2.mls i ds hi
            rw [q1] at r1
            cases r1
            cases i2
            exact ⟨l, vs, c, z, rfl, rfl, r3, by rw [r4.length]; exact hj, G _ _ ⟨B2, a2.wrote hi q1 r3 (r4.set (i1.mono s2.up) z)⟩⟩
        · cases h3
      · intro σ H a
        refine he.at q a (fun d'' hd v B1 H1 a1 i1 => ?_) (fun _ _ z => nomatch z)
        obtain ⟨l, vs0, q1, q2, q3, _⟩ := a1.k.mls i es h0
        exact ⟨_, q1, hk.at q' ⟨B1, a1⟩ (fun _ z => nomatch z) fun C' d' z => by cases z; exact G⟩
    · cases h2
  · intro σ H a
    exact he.at q a (fun _ z => nomatch z) fun C' d' z => by cases z; exact G⟩
def sRet (me : M D) : S := sVal me fun d e => some (.rt d, e)
theorem sx_ret (he : EX W te me) : SX pn W (tRet te) (sRet me) := ⟨fun ε o e h F E hp G => by
  rcases sVal_inv h with ⟨d, e1, q, h2⟩ | ⟨C, d, q, rfl⟩
  · cases h2
    intro σ H a
    exact he.at q a (fun d' hd v B1 H1 a1 i1 => by cases hd; exact G σ B1 H1 v a1 i1) (fun _ _ z => nomatch z)
  · intro σ H a
    exact he.at q a (fun _ z => nomatch z) fun C' d' z => by cases z; exact G⟩
/-- the return of a list that is new -/
def sRetN (mA : M (List D)) : S := sVals mA fun ds e => if ds.length ≤ 1000 then some (.rn ds, e) else none
theorem sx_retN (he : EA W tA mA) : SX pn W (tRet (tLst tA)) (sRetN mA) := ⟨fun ε o e h F E hp G => by
  rcases sVals_inv h with ⟨ds, e1, q, h2⟩ | ⟨C, d, q, rfl⟩
  · split at h2
    · rename_i hl
      cases h2
      intro σ H a
      refine he.at q a (fun d' hd vs B1 H1 a1 i1 => ?_) (fun _ _ z => nomatch z)
      cases hd
      exact ⟨by rw [i1.length]; exact Nat.le_trans hl (by decide), fun x hx => G σ B1 H1 x vs a1 hx i1⟩
    · cases h2
  · intro σ H a
    exact he.at q a (fun _ z => nomatch z) fun C' d' z => by cases z; exact G⟩
def sExpr (me : M D) : S := sVal me fun d e => some (.nx, e)
theorem sx_expr (he : EX W te me) : SX pn W (tDrop te) (sExpr me) := ⟨fun ε o e h F E hp G => by
  rcases sVal_inv h with ⟨d, e1, q, h2⟩ | ⟨C, d, q, rfl⟩
  · cases h2
    intro σ H a
    exact he.at q a (fun d' hd v B1 H1 a1 i1 => G σ H1 ⟨B1, a1⟩) (fun _ _ z => nomatch z)
  · intro σ H a
    exact he.at q a (fun _ z => nomatch z) fun C' d' z => by cases z; exact G⟩
def sIf (mc : M Bool) (m n : S) : S := fun ε => match mc ε with
  | none => none
  | some (.ok true, e) => m e
  | some (.ok false, e) => n e
  | some (.ex C d, e) => some (.ex C d, e)
theorem sx_if (hc : ET W tc mc) (h1 : SX pn W t mt) (h2 : SX pn W u mu) : SX pn W (tIfS tc t u) (sIf mc mt mu) := ⟨fun ε o e h F E hp G => by
  unfold sIf at h
  split at h
  · cases h
  · rename_i e1 q
    intro σ H a
    exact hc.at q a (fun b hb H1 a1 => by cases hb; exact h1.run e1 o e h F E hp G σ H1 a1) (fun _ _ z => nomatch z)
  · rename_i e1 q
    intro σ H a
    exact hc.at q a (fun b hb H1 a1 => by cases hb; exact h2.run e1 o e h F E hp G σ H1 a1) (fun _ _ z => nomatch z)
  · rename_i C d e1 q
    cases h
    intro σ H a
    exact hc.at q a (fun _ z => nomatch z) fun C' d' z => by cases z; exact G⟩
/-- a statement that is not reached -/
def sNone : S := fun _ => none
theorem sx_never : SX pn W tNever sNone := ⟨fun _ _ _ h => nomatch h⟩
/-- a later frame of the same body -/
structure FrE (F F' : Frm) : Prop where
  pin : F'.pin = F.pin
  stp : Stp F.S F.B F.H F'.B F'.H
  fresh : ∀ a, F'.S a → F.S a ∨ Fre F.H a
theorem FrE.free {F F' : Frm} (e : FrE F F') {a : Addr} (h : F'.S a ∨ Fre F'.H a) : F.S a ∨ Fre F.H a := by
  rcases h with h | h
  · exact e.fresh a h
  · exact .inr (e.stp.fresh h)
theorem AtB.out {F F' : Frm} {ε : Sl} (e : FrE F F') {σ : L2.St} {B H : Hp} (a : AtB F' ε σ B H) : AtB F ε σ B H := ⟨a.k, e.stp.trans a.s e.fresh, fun x q => e.free (a.m x q), fun q hq => a.p q (e.pin.trans hq)⟩
theorem At.out {F F' : Frm} {ε : Sl} (e : FrE F F') {σ : L2.St} {H : Hp} (a : At F' ε σ H) : At F ε σ H := by
  obtain ⟨B, a⟩ := a
  exact ⟨B, a.out e⟩
/-- the turns of a for -/
def forGo (gv : D → Sl → Option Sl) (body : S) : List D → S
  | [], ε => some (.nx, ε)
  | d :: r, ε => match gv d ε with
    | none => none
    | some ε2 => match body ε2 with
      | none => none
      | some (.nx, e) => forGo gv body r e
      | some (.ct, e) => forGo gv body r e
      | some (.bk, e) => some (.nx, e)
      | some (.rt d, e) => some (.rt d, e)
      | some (.rn d, e) => some (.rn d, e)
      | some (.ex C d, e) => some (.ex C d, e)
def sFor (mi : M (List D)) (gv : D → Sl → Option Sl) (body : S) : S := sVals mi fun ds => forGo gv body ds
theorem sx_for {wi : TI} {g : TG} {vs : List Nat} {gv : D → Sl → Option Sl} {mi : M (List D)} (hi : EI W wi mi) (hg : EG g vs gv) (hb : SX pn W tb mb) (h0 : 0 ∉ vs ∨ pn = false) : SX pn W (tFor wi g tb) (sFor mi gv mb) := ⟨fun ε o e h F E hp G => by
  rcases sVals_inv h with ⟨ds, e1, q, h2⟩ | ⟨C, d, q, rfl⟩
  · obtain ⟨kp, run⟩ := hi.run _ _ _ q
    rintro σ H ⟨B, a⟩
    refine run B H σ _ a.k fun J B1 H1 GG Y s1 k1 w hG hY => ?_
    have fe : FrE F ⟨Mu σ e1, B1, H1, F.pin⟩ := ⟨rfl, a.s.trans s1 a.m, fun x m => a.m x (kp.mu m)⟩
    refine for_it w (fun i σ2 H2 => ∃ a, forGo gv mb (ds.drop i) a = some (o, e) ∧ At ⟨Mu σ e1, B1, H1, F.pin⟩ a σ2 H2) ?_ ?_ ?_ ?_
    · exact ⟨e1, h2, B1, k1, .refl k1.sub, fun x m => .inl m, a.p⟩
    · rintro i σ2 H2 _ ⟨a2, _, B2, b2⟩
      exact hG H2 fun x o' z => b2.k.sub x o' (b2.s.up x o' z)
    · rintro i x σ2 H2 H3 hin ⟨a2, go, B2, b2⟩ y
      have hd : ds[i]? = some ds[i] := List.getElem?_eq_getElem hin
      have ed : ds.drop i = ds[i] :: ds.drop (i + 1) := List.drop_eq_getElem_cons hin
      rw [ed] at go
      obtain ⟨B3, s3, x3⟩ := hY i B2 H2 x H3 ds[i] hd b2.s.up b2.k.sub y
      unfold forGo at go
      cases hg1 : gv ds[i] a2 with
      | none => rw [hg1] at go; cases go
      | some ε2 =>
        rw [hg1] at go
        dsimp only at go
        obtain ⟨kg, _, g1⟩ := hg ds[i] a2 ε2 hg1
        refine g1 B3 H3 σ2 x _ (b2.k.step0 s3) x3 fun σ3 k4 hw hm => ?_
        have a4 : At ⟨Mu σ e1, B1, H1, F.pin⟩ ε2 σ3 H3 := ⟨B3, k4, b2.s.trans0 s3, fun z m => b2.m z (hm z m), fun p hq => by
          rcases h0 with z | z
          · have := b2.p p hq
            rw [← wipe_out (vs := vs) z, ← hw, wipe_out z] at this
            exact this
          · have hq' : F.pin = some p := hq
            rw [hp z] at hq'; cases hq'⟩
        split at go
        · cases go
        · rename_i e3 hb1
          exact hb.run ε2 _ e3 hb1 ⟨Mu σ e1, B1, H1, F.pin⟩ { E with nx := fun σ2 H2 => ∃ a, forGo gv mb (ds.drop (i + 1)) a = some (o, e) ∧ At ⟨Mu σ e1, B1, H1, F.pin⟩ a σ2 H2, ct := fun σ2 H2 => ∃ a, forGo gv mb (ds.drop (i + 1)) a = some (o, e) ∧ At ⟨Mu σ e1, B1, H1, F.pin⟩ a σ2 H2, bk := E.nx } hp (fun σ5 H5 a5 => ⟨e3, go, a5⟩) σ3 H3 a4
        · rename_i e3 hb1
          exact hb.run ε2 _ e3 hb1 ⟨Mu σ e1, B1, H1, F.pin⟩ { E with nx := fun σ2 H2 => ∃ a, forGo gv mb (ds.drop (i + 1)) a = some (o, e) ∧ At ⟨Mu σ e1, B1, H1, F.pin⟩ a σ2 H2, ct := fun σ2 H2 => ∃ a, forGo gv mb (ds.drop (i + 1)) a = some (o, e) ∧ At ⟨Mu σ e1, B1, H1, F.pin⟩ a σ2 H2, bk := E.nx } hp (fun σ5 H5 a5 => ⟨e3, go, a5⟩) σ3 H3 a4
        · rename_i e3 hb1
          cases go
          exact hb.run ε2 _ _ hb1 ⟨Mu σ e1, B1, H1, F.pin⟩ _ hp (fun σ5 H5 a5 => G σ5 H5 (a5.out fe)) σ3 H3 a4
        · rename_i d' e3 hb1
          cases go
          exact hb.run ε2 _ _ hb1 ⟨Mu σ e1, B1, H1, F.pin⟩ { E with nx := fun σ2 H2 => ∃ a, forGo gv mb (ds.drop (i + 1)) a = some (.rt d', e) ∧ At ⟨Mu σ e1, B1, H1, F.pin⟩ a σ2 H2, ct := fun σ2 H2 => ∃ a, forGo gv mb (ds.drop (i + 1)) a = some (.rt d', e) ∧ At ⟨Mu σ e1, B1, H1, F.pin⟩ a σ2 H2, bk := E.nx } hp (fun σ5 B5 H5 v a5 i5 => G σ5 B5 H5 v (a5.out fe) i5) σ3 H3 a4
        · rename_i d' e3 hb1
          cases go
          exact hb.run ε2 _ _ hb1 ⟨Mu σ e1, B1, H1, F.pin⟩ { E with nx := fun σ2 H2 => ∃ a, forGo gv mb (ds.drop (i + 1)) a = some (.rn d', e) ∧ At ⟨Mu σ e1, B1, H1, F.pin⟩ a σ2 H2, ct := fun σ2 H2 => ∃ a, forGo gv mb (ds.drop (i + 1)) a = some (.rn d', e) ∧ At ⟨Mu σ e1, B1, H1, F.pin⟩ a σ2 H2, bk := E.nx } hp (fun σ5 B5 H5 l ws a5 hl i5 => G σ5 B5 H5 l ws (a5.out fe) hl i5) σ3 H3 a4
        · rename_i C' d' e3 hb1
          cases go
          exact hb.run ε2 _ _ hb1 ⟨Mu σ e1, B1, H1, F.pin⟩ { E with nx := fun σ2 H2 => ∃ a, forGo gv mb (ds.drop (i + 1)) a = some (.ex C' d', e) ∧ At ⟨Mu σ e1, B1, H1, F.pin⟩ a σ2 H2, ct := fun σ2 H2 => ∃ a, forGo gv mb (ds.drop (i + 1)) a = some (.ex C' d', e) ∧ At ⟨Mu σ e1, B1, H1, F.pin⟩ a σ2 H2, bk := E.nx } hp (fun σ5 B5 H5 dd a5 i5 => G σ5 B5 H5 dd (a5.out fe) i5) σ3 H3 a4
    · rintro σ2 H2 ⟨a2, go, b2⟩
      rw [List.drop_length] at go
      cases go
      exact G σ2 H2 (b2.out fe)
  · obtain ⟨kp, run⟩ := hi.run _ _ _ q
    rintro σ H ⟨B, a⟩
    exact run B H σ _ a.k fun dd B1 H1 s1 k1 f => G σ B1 H1 dd (a.step s1 k1 kp) f⟩
/-- self.f = e, in an __init__ -/
def sFldS (i : Nat) (kn : Addr → Bool) (f : Str) (me : M D) : S := sVal me fun d e => match e[i]? with
  | some (.mob C gs) => if kn C && gs.all (fun x => decide (x.1 ≠ f)) && decide (gs.length < 900) then some (.nx, e.set i (.mob C (gs ++ [(f, d)]))) else none
  | _ => none
theorem sx_fld {kn : Addr → Bool} {f : Str} (hc : ∀ C, kn C = true → Cls K C ∧ NoAttr K C f) (he : EX W te me) : SX pn W (sFld K (tVar i) te f) (sFldS i kn f me) := ⟨fun ε o e h F E hp G => by
  rcases sVal_inv h with ⟨d, e1, q, h2⟩ | ⟨C, d, q, rfl⟩
  · split at h2
    · rename_i C gs hi
      split at h2
      · rename_i hq
        simp only [Bool.and_eq_true, List.all_eq_true, decide_eq_true_eq] at hq
        obtain ⟨⟨hk, hf⟩, hz⟩ := hq
        cases h2
        intro σ H a
        refine he.at q a (fun d' hd v B1 H1 a1 i1 => ?_) (fun _ _ z => nomatch z)
        cases hd
        obtain ⟨l, dx, fs, q1, q2, q3, q4⟩ := a1.k.mob i C gs hi
        have put : ∀ {fs : List (Str × V)} {gs : List (Str × D)}, IsF B1 fs gs → (∀ x ∈ gs, x.1 ≠ f) → IsF B1 (putF f v fs) (gs ++ [(f, d)]) := by
          intro fs gs hf
          induction gs generalizing fs with
          | nil => intro _; cases hf; exact .cons i1 .nil
          | cons g gs ih =>
            intro hn
            cases hf with
            | cons h1 h2 =>
              rename_i ff vv dd fs'
              have e : putF f v ((ff, vv) :: fs') = (ff, vv) :: putF f v fs' := if_neg (hn (ff, dd) (by simp))
              rw [e]
              exact .cons h1 (ih h2 fun x hx => hn x (by simp [hx]))
        refine ⟨_, q1, l, C, dx, fs, rfl, q3, (hc C hk).1, (hc C hk).2, by rw [q4.length]; omega, G _ _ ⟨B1, ?_⟩⟩
        have hm : Mu σ e1 l := ⟨i, _, hi, rfl, q1⟩
        obtain ⟨hb, _⟩ := a1.k.mut_free hm
        have s2 : Stp (· = l) B1 H1 B1 (upd H1 l (.ins C dx (putF f v fs))) := .write a1.k.sub rfl hb q3 nt_ins
        exact ⟨a1.k.wroteO hi q1 s2 hb upd_same (put q4 hf), a1.s.trans s2 fun x z => a1.m x (z ▸ hm), fun x m => a1.m x ((Keeps.wrote hi rfl).mu m), a1.p⟩
      · cases h2
    · cases h2
  · intro σ H a
    exact he.at q a (fun _ z => nomatch z) fun C' d' z => by cases z; exact G⟩
/-- self.f read within an __init__ -/
def mFldN (fl : D → Option D) (i : Nat) : M D := fun ε => match ε[i]? with
  | some (.mob C gs) => lif (fl (.obj C gs)) ε
  | _ => mFld fl (mVar i) ε
theorem ex_fldN {f : Str} {fl : D → Option D} (Fl : Fields K f fl) : EX W (tFld K (tVar i) f) (mFldN fl i) := ⟨fun ε r e h => by
  unfold mFldN at h
  split at h
  · rename_i C gs hi
    obtain ⟨z, hz, rfl, rfl⟩ := lif_inv h
    obtain ⟨h1, h2, h3⟩ := Fl.ok C gs z hz
    refine ⟨.refl _, fun B H σ Q k g => ?_⟩
    obtain ⟨l, dx, fs, q1, q2, q3, q4⟩ := k.mob i C gs hi
    obtain ⟨w, g1, g2⟩ := q4.lookup h1
    exact ⟨_, q1, _, _, _, _, w, rfl, q3, h2, h3, g1, g B H (.refl k.sub) k _ g2⟩
  · exact (ex_fld Fl ex_var).run ε r e h⟩
/-- x[k], x a name: a list that changes, or any -/
def mIxN (i : Nat) (mi : M D) : M D := fun ε => match ε[i]? with
  | some (.mls _) => bnd mi (fun c e => match c, e[i]? with
    | .int c, some (.mls ds) => lif (atI ds c) e
    | _, _ => none) ε
  | _ => mOp ixF (mVar i) mi ε
theorem ex_ixN (hi : EX W ti mi) : EX W (tOp (rIx K) (tVar i) ti) (mIxN i mi) := ⟨fun ε r e h => by
  unfold mIxN at h
  split at h
  · rename_i es h0
    rcases bnd_inv h with ⟨C, d, e1, rfl⟩ | ⟨c, e1, h1, h2⟩
    · obtain ⟨kp, run⟩ := hi.run _ _ _ e1
      refine ⟨kp, fun B H σ Q k g => ?_⟩
      obtain ⟨l, vs0, q1, _, _, _⟩ := k.mls i es h0
      exact ⟨_, q1, run B H σ _ k g⟩
    · obtain ⟨kp, run⟩ := hi.run _ _ _ h1
      split at h2
      · rename_i c ds hj
        obtain ⟨z, hz, rfl, rfl⟩ := lif_inv h2
        refine ⟨kp, fun B H σ Q k g => ?_⟩
        obtain ⟨l, vs0, q1, _, _, _⟩ := k.mls i es h0
        refine ⟨_, q1, run B H σ _ k fun B1 H1 s1 k1 v i1 => ?_⟩
        cases i1
        obtain ⟨l', xs, r1, r2, r3, r4⟩ := k1.mls i ds hj
        rw [q1] at r1
        cases r1
        have hl := r4.length
        unfold atI at hz
        rw [← hl] at hz
        cases ez : ixN xs.length c with
        | none => rw [ez] at hz; cases hz
        | some j =>
          rw [ez] at hz
          obtain ⟨w, hw, hd⟩ := r4.at (i := j) hz
          exact .inl ⟨l, xs, c, w, rfl, rfl, SqL.of r3, by unfold atI; rw [ez]; exact hw, g B1 H1 s1 k1 _ hd⟩
      · cases h2
  · exact (ex_op (fun x y z h => f_ix h) ex_var hi).run ε r e h⟩
/-- len(x), x a name -/
def mLenN (i : Nat) : M D := fun ε => match ε[i]? with
  | some (.mls ds) => some (.ok (.int ds.length), ε)
  | _ => mCB lenF (mCons (mVar i) mNil) ε
theorem ex_lenN : EX W (tCB (rLen K) (tCons (tVar i) tNil)) (mLenN i) := ⟨fun ε r e h => by
  unfold mLenN at h
  split at h
  · rename_i ds h0
    cases h
    refine ⟨.refl _, fun B H σ Q k g => ?_⟩
    obtain ⟨l, vs0, q1, q2, q3, q4⟩ := k.mls i ds h0
    exact ⟨_, q1, _, ds.length, rfl, .inl ⟨_, SqL.of q3, q4.length.symm⟩, g B H (.refl k.sub) k _ (.int _)⟩
  · exact (ex_tcb (fun xs z h => f_len h) (ea_cons ex_var ea_nil)).run ε r e h⟩
end
end Wd
/-! From a body's mirror to its def's promise. -/
namespace Wd
open PySem L2
section
variable [Tab]
abbrev F0 (B H : Hp) : Frm := ⟨fun _ => False, B, H, none⟩
abbrev FM (p : Addr) (B H : Hp) : Frm := ⟨(· = p), B, H, some p⟩
def startE (n : Nat) (ds : List D) : List Slo := ds.map Slo.dat ++ List.replicate (n - ds.length) .no
def startS (n : Nat) (e0 : Slo) (ds : List D) : List Slo := e0 :: ds.map Slo.dat ++ List.replicate (n - (ds.length + 1)) .no
theorem startE_knw {B H : Hp} {vs : List V} {ds : List D} {Nm : List Str} (s : Sb B H) (h : IsA B vs ds) : Knw B H (L2.start Nm vs) (startE Nm.length ds) where
  sub := s
  len := by unfold startE L2.start; rw [List.length_append, List.length_append, List.length_map, List.length_map, List.length_replicate, List.length_replicate, h.length]
  dat := fun i d q => by
    unfold startE at q
    by_cases hi : i < ds.length
    · rw [List.getElem?_append_left (by simpa using hi), List.getElem?_map] at q
      have e : ds[i]? = some d := by
        cases e : ds[i]? with
        | none => rw [e] at q; cases q
        | some u => rw [e] at q; cases q; rfl
      obtain ⟨v, h1, h2⟩ := h.at e
      refine ⟨v, ?_, h2⟩
      unfold L2.start
      rw [List.getElem?_append_left (by rw [List.length_map, h.length]; exact hi), List.getElem?_map, h1]
      rfl
    · rw [List.getElem?_append_right (by simpa using hi), List.getElem?_replicate] at q
      split at q <;> cases q
  mls := fun i d q => by
    unfold startE at q
    by_cases hi : i < ds.length
    · rw [List.getElem?_append_left (by simpa using hi), List.getElem?_map] at q
      cases e : ds[i]? with
      | none => rw [e] at q; cases q
      | some u => rw [e] at q; cases q
    · rw [List.getElem?_append_right (by simpa using hi), List.getElem?_replicate] at q
      split at q <;> cases q
  mob := fun i C d q => by
    unfold startE at q
    by_cases hi : i < ds.length
    · rw [List.getElem?_append_left (by simpa using hi), List.getElem?_map] at q
      cases e : ds[i]? with
      | none => rw [e] at q; cases q
      | some u => rw [e] at q; cases q
    · rw [List.getElem?_append_right (by simpa using hi), List.getElem?_replicate] at q
      split at q <;> cases q
  apart := fun i j e e' l hij h1 h2 => by
    exfalso
    unfold startE at h1
    by_cases hi : i < ds.length
    · rw [List.getElem?_append_left (by simpa using hi), List.getElem?_map] at h1
      cases z : ds[i]? with
      | none => rw [z] at h1; cases h1
      | some u => rw [z] at h1; cases h1; cases h2
    · rw [List.getElem?_append_right (by simpa using hi), List.getElem?_replicate] at h1
      split at h1
      · cases h1; cases h2
      · cases h1
theorem startE_mu {vs : List V} {ds : List D} {Nm : List Str} {a : Addr} (m : Mu (L2.start Nm vs) (startE Nm.length ds) a) : False := by
  obtain ⟨i, e, h1, h2, _⟩ := m
  unfold startE at h1
  by_cases hi : i < ds.length
  · rw [List.getElem?_append_left (by simpa using hi), List.getElem?_map] at h1
    cases z : ds[i]? with
    | none => rw [z] at h1; cases h1
    | some u => rw [z] at h1; cases h1; cases h2
  · rw [List.getElem?_append_right (by simpa using hi), List.getElem?_replicate] at h1
    split at h1
    · cases h1; cases h2
    · cases h1
/-- the state ahead of a body whose slot 0 changes -/
theorem startS_knw {B H : Hp} {vs : List V} {ds : List D} {Nm : List Str} {p : Addr} {e0 : Slo} (s : Sb B H) (hb : B p = none) (h : IsA B vs ds)
    (he : (∃ ms ws, e0 = .mls ms ∧ H p = some (.lst ws) ∧ IsA B ws ms) ∨ ∃ C gs dx fs, e0 = .mob C gs ∧ H p = some (.ins C dx fs) ∧ IsF B fs gs) : Knw B H (L2.start Nm (V.ref p :: vs)) (startS Nm.length e0 ds) := by
  have tail : ∀ {i : Nat} {e : Slo}, (ds.map Slo.dat ++ List.replicate (Nm.length - (ds.length + 1)) .no)[i]? = some e → e = .no ∨ ∃ d v, e = .dat d ∧ (vs.map some ++ List.replicate (Nm.length - (vs.length + 1)) none)[i]? = some (some v) ∧ Is B v d := by
    intro i e q
    by_cases hi : i < ds.length
    · rw [List.getElem?_append_left (by simpa using hi), List.getElem?_map] at q
      cases z : ds[i]? with
      | none => rw [z] at q; cases q
      | some u =>
        rw [z] at q
        obtain ⟨v, h1, h2⟩ := h.at z
        refine .inr ⟨u, v, (Option.some.inj q).symm, ?_, h2⟩
        rw [List.getElem?_append_left (by rw [List.length_map, h.length]; exact hi), List.getElem?_map, h1]
        rfl
    · rw [List.getElem?_append_right (by simpa using hi), List.getElem?_replicate] at q
      split at q
      · exact .inl (Option.some.inj q).symm
      · cases q
  have hσ : L2.start Nm (V.ref p :: vs) = some (V.ref p) :: (vs.map some ++ List.replicate (Nm.length - (vs.length + 1)) none) := by
    unfold L2.start
    simp
  have hε : startS Nm.length e0 ds = e0 :: (ds.map Slo.dat ++ List.replicate (Nm.length - (ds.length + 1)) .no) := rfl
  rw [hσ, hε]
  have tl : ∀ {i : Nat} {e : Slo}, (ds.map Slo.dat ++ List.replicate (Nm.length - (ds.length + 1)) .no)[i]? = some e → e.mut = false := fun {i e} q => by
    rcases tail q with rfl | ⟨d, v, rfl, _⟩ <;> rfl
  refine ⟨s, by simp [h.length], fun i d q => ?_, fun i ms q => ?_, fun i C gs q => ?_, fun i j e e' l hij h1 h2 h3 h4 => ?_⟩
  · cases i with
    | zero =>
      simp at q
      subst q
      rcases he with ⟨_, _, z, _⟩ | ⟨_, _, _, _, z, _⟩ <;> cases z
    | succ i =>
      rcases tail (by simpa using q) with z | ⟨d', v, z, h1, h2⟩
      · cases z
      · cases z; exact ⟨v, by simpa using h1, h2⟩
  · cases i with
    | zero =>
      simp at q
      subst q
      rcases he with ⟨ms', ws, z, h1, h2⟩ | ⟨_, _, _, _, z, _⟩
      · cases z; exact ⟨p, ws, rfl, hb, h1, h2⟩
      · cases z
    | succ i => exact absurd (tl (by simpa using q)) (by simp [Slo.mut])
  · cases i with
    | zero =>
      simp at q
      subst q
      rcases he with ⟨ms', ws, z, h1, h2⟩ | ⟨C', gs', dx, fs, z, h1, h2⟩
      · cases z
      · cases z; exact ⟨p, dx, fs, rfl, hb, h1, h2⟩
    | succ i => exact absurd (tl (by simpa using q)) (by simp [Slo.mut])
  · have zero : ∀ {k : Nat} {u : Slo}, (e0 :: (ds.map Slo.dat ++ List.replicate (Nm.length - (ds.length + 1)) .no))[k]? = some u → u.mut = true → k = 0 := fun {k u} q m => by
      cases k with
      | zero => rfl
      | succ k => rw [tl (by simpa using q)] at m; cases m
    exact absurd ((zero h1 h2).trans (zero h3 h4).symm) hij
theorem startS_mu {vs : List V} {ds : List D} {Nm : List Str} {p a : Addr} {e0 : Slo} (m : Mu (L2.start Nm (V.ref p :: vs)) (startS Nm.length e0 ds) a) : a = p := by
  obtain ⟨i, e, h1, h2, h3⟩ := m
  cases i with
  | zero => simp [L2.start] at h3; exact h3.symm
  | succ i =>
    exfalso
    have q : (ds.map Slo.dat ++ List.replicate (Nm.length - (ds.length + 1)) .no)[i]? = some e := by simpa [startS] using h1
    by_cases hi : i < ds.length
    · rw [List.getElem?_append_left (by simpa using hi), List.getElem?_map] at q
      cases z : ds[i]? with
      | none => rw [z] at q; cases q
      | some u => rw [z] at q; cases q; cases h2
    · rw [List.getElem?_append_right (by simpa using hi), List.getElem?_replicate] at q
      split at q
      · cases q; cases h2
      · cases q


/-- what a body gives -/
def runX (n : Nat) (s : S) (ds : List D) : Option (Rs D) := match s (startE n ds) with
  | some (.rt d, _) => some (.ok d)
  | some (.nx, _) => some (.ok .non)
  | some (.ex C d, _) => some (.ex C d)
  | _ => none
def mls0 (e : Sl) : Option (List D) := match (e[(0 : Nat)]? : Option Slo) with
  | some (.mls ms) => some ms
  | _ => none
def mob0 (C : Addr) (e : Sl) : Option (List (Str × D)) := match (e[(0 : Nat)]? : Option Slo) with
  | some (.mob C' gs) => if C' = C then some gs else none
  | _ => none
theorem mls0_inv {e : Sl} {ms : List D} (h : mls0 e = some ms) : e[0]? = some (.mls ms) := by
  unfold mls0 at h
  split at h
  · cases h; assumption
  · cases h
theorem mob0_inv {C : Addr} {e : Sl} {gs : List (Str × D)} (h : mob0 C e = some gs) : e[0]? = some (.mob C gs) := by
  unfold mob0 at h
  split at h
  · split at h
    · rename_i hC
      subst hC
      cases h
      assumption
    · cases h
  · cases h
def runY (n : Nat) (s : S) (ms ds : List D) : Option (D × List D) := match s (startS n (.mls ms) ds) with
  | some (.rt d, e) => (mls0 e).map fun ms' => (d, ms')
  | some (.nx, e) => (mls0 e).map fun ms' => (.non, ms')
  | _ => none
def runZ (n : Nat) (s : S) (ds : List D) : Option (List D) := match s (startE n ds) with
  | some (.rn ms, _) => some ms
  | _ => none
def runW (C : Addr) (n : Nat) (s : S) (ds : List D) : Option (Rs (List (Str × D))) := match s (startS n (.mob C []) ds) with
  | some (.nx, e) => (mob0 C e).map .ok
  | some (.ex C d, _) => some (.ex C d)
  | _ => none
variable {Nm : List Str} {t : TS} {s : S} {vs : List V} {H : Hp} {Q : VK} {E : XK} {W : WX}
theorem body_X (hs : SX false W t s) (hW : ∀ c d σ H, W c d σ H → E c d H) (hE : ∀ c d σ H, E c d H → W c d σ H) (h : spX (runX Nm.length s) vs H Q E) : t { nx := fun _ H' => Q .non H', rt := Q } (L2.start Nm vs) H := by
  obtain ⟨B, ds, r, sb, i, hm, k⟩ := h
  have a : At (F0 B H) (startE Nm.length ds) (L2.start Nm vs) H := ⟨B, startE_knw sb i, .refl sb, fun a m => (startE_mu m).elim, fun p z => nomatch z⟩
  unfold runX at hm
  split at hm
  · rename_i d e q
    cases hm
    exact hs.run _ _ _ q (F0 B H) _ (fun _ => rfl) (fun σ B1 H1 v a1 i1 => k v B1 H1 a1.s i1) _ _ a
  · rename_i e q
    cases hm
    exact hs.run _ _ _ q (F0 B H) _ (fun _ => rfl) (fun σ H1 ⟨B1, a1⟩ => k _ B1 H1 a1.s .non) _ _ a
  · rename_i C d e q
    cases hm
    exact hs.run _ _ _ q (F0 B H) _ (fun _ => rfl) (fun σ B1 H1 dd a1 f => hE _ _ _ _ (k dd B1 H1 a1.s f)) _ _ a
  · cases hm
theorem body_Y (hs : SX true W t s) (h : spY (runY Nm.length s) vs H Q E) : t { nx := fun _ H' => Q .non H', rt := Q } (L2.start Nm vs) H := by
  obtain ⟨B, p, ws, ms, vs', ds, d, ms', rfl, sb, hb, hp, iw, i, hm, k⟩ := h
  have a : At (FM p B H) (startS Nm.length (.mls ms) ds) (L2.start Nm (V.ref p :: vs')) H := ⟨B, startS_knw sb hb i (.inl ⟨ms, ws, rfl, hp, iw⟩), .refl sb, fun a m => .inl (startS_mu m), fun q z => by cases z; rfl⟩
  have fin : ∀ {σ : L2.St} {e : Sl} {B1 H1 : Hp} {v : V} {ms' : List D} {d : D}, AtB (FM p B H) e σ B1 H1 → e[0]? = some (.mls ms') → Is B1 v d → (∀ v B' H' ws', Stp (· = p) B H B' H' → B' p = none → H' p = some (.lst ws') → IsA B' ws' ms' → Is B' v d → Q v H') → Q v H1 := by
    intro σ e B1 H1 v ms' d a1 e0 i1 k
    obtain ⟨l, us, q1, q2, q3, q4⟩ := a1.k.mls 0 ms' e0
    rw [a1.p p rfl] at q1
    cases q1
    exact k v B1 H1 us a1.s q2 q3 q4 i1
  unfold runY at hm
  split at hm
  · rename_i d0 e q
    cases e0 : mls0 e with
    | none => rw [e0] at hm; cases hm
    | some ms0 =>
      rw [e0] at hm
      cases hm
      exact hs.run _ _ _ q (FM p B H) _ (fun z => nomatch z) (fun σ B1 H1 v a1 i1 => fin a1 (mls0_inv e0) i1 k) _ _ a
  · rename_i e q
    cases e0 : mls0 e with
    | none => rw [e0] at hm; cases hm
    | some ms0 =>
      rw [e0] at hm
      cases hm
      exact hs.run _ _ _ q (FM p B H) _ (fun z => nomatch z) (fun σ H1 ⟨B1, a1⟩ => fin a1 (mls0_inv e0) .non k) _ _ a
  · cases hm
theorem body_Z (hs : SX false W t s) (h : spZ (runZ Nm.length s) vs H Q E) : t { nx := fun _ H' => Q .non H', rt := Q } (L2.start Nm vs) H := by
  obtain ⟨B, ds, ms, sb, i, hm, k⟩ := h
  have a : At (F0 B H) (startE Nm.length ds) (L2.start Nm vs) H := ⟨B, startE_knw sb i, .refl sb, fun a m => (startE_mu m).elim, fun p z => nomatch z⟩
  unfold runZ at hm
  split at hm
  · rename_i d e q
    cases hm
    refine hs.run _ _ _ q (F0 B H) _ (fun _ => rfl) (fun σ B1 H1 l ws a1 hl i1 => ?_) _ _ a
    have h0 : Fre H l := a1.s.fresh (fre_of hl)
    exact k l ws B1 _ (a1.s.trans0 (.apart a1.k.sub hl)) h0 (free_of a1.k.sub hl) upd_same i1
  · cases hm
theorem body_W {C : Addr} (hs : SX true W t s) (hE : ∀ c d σ H, E c d H → W c d σ H) (h : spW C (runW C Nm.length s) vs H Q E) : t { nx := fun _ H' => Q .non H', rt := Q } (L2.start Nm vs) H := by
  obtain ⟨B, x, dx, vs', ds, r, rfl, sb, hb, hp, i, hm, k⟩ := h
  have a : At (FM x B H) (startS Nm.length (.mob C []) ds) (L2.start Nm (V.ref x :: vs')) H := ⟨B, startS_knw sb hb i (.inr ⟨C, [], dx, [], rfl, hp, .nil⟩), .refl sb, fun a m => .inl (startS_mu m), fun q z => by cases z; rfl⟩
  unfold runW at hm
  split at hm
  · rename_i e q
    cases e0 : mob0 C e with
    | none => rw [e0] at hm; cases hm
    | some gs =>
      rw [e0] at hm
      cases hm
      refine hs.run _ _ _ q (FM x B H) _ (fun z => nomatch z) (fun σ H1 ⟨B1, a1⟩ => ?_) _ _ a
      obtain ⟨l, dy, us, q1, q2, q3, q4⟩ := a1.k.mob 0 C gs (mob0_inv e0)
      rw [a1.p x rfl] at q1
      cases q1
      exact k B1 H1 dy us a1.s q2 q3 q4
  · rename_i C' d e q
    cases hm
    exact hs.run _ _ _ q (FM x B H) _ (fun z => nomatch z) (fun σ B1 H1 dd a1 f => hE _ _ _ _ (k dd B1 H1 a1.s f)) _ _ a
  · cases hm
/-! ### instances made -/
def mMake (C : Addr) (m : List D → Option (Rs (List (Str × D)))) (mA : M (List D)) : M D := bnd mA fun xs => bnd (rs (m xs)) fun gs => giv (.obj C gs)
def mMake0 (C : Addr) (m : List D → Option (Rs (List (Str × D)))) (mA : M (List D)) : M D := bnd mA fun xs => lif ((ok0 (m xs)).map (.obj C))
variable {tA : TA} {mA : M (List D)} {C : Addr} {m : List D → Option (Rs (List (Str × D)))}
theorem make_at {B1 H1 : Hp} {σ : L2.St} {e : Sl} {vs dvs : List V} {xs ys : List D} {r : Rs (List (Str × D))} {E : XK} {x dx : Addr} {Qv : VK} (k1 : Knw B1 H1 σ e) (i1 : IsA B1 vs xs) (i2 : IsA B1 dvs ys) (hx : H1 x = none) (hdx : H1 dx = none) (hne : dx ≠ x) (hm : m (xs ++ ys) = some r)
    (g : match r with
      | .ok gs => ∀ v B2 H2, Stp0 B1 H1 B2 H2 → Is B2 v (.obj C gs) → v = .ref x → Qv v H2
      | .ex C' d => ∀ dd B2 H2, Stp0 B1 H1 B2 H2 → Flies B2 dd d → E (.ref C') (some dd) H2) :
    spW C m (.ref x :: (vs ++ dvs)) (upd (upd H1 dx (.own x)) x (.ins C dx [])) (fun v H2 => v = .non ∧ Qv (.ref x) H2) E := by
  have bx := free_of k1.sub hx
  have s2 : Stp0 B1 H1 B1 (upd H1 dx (.own x)) := .apart k1.sub hdx
  have hx2 : upd H1 dx (.own x) x = none := by rw [upd_ne hne.symm]; exact hx
  have s3 : Stp0 B1 (upd H1 dx (.own x)) B1 (upd (upd H1 dx (.own x)) x (.ins C dx [])) := .apart s2.inn hx2
  have s4 := s2.trans0 s3
  refine ⟨B1, x, dx, vs ++ dvs, xs ++ ys, r, rfl, s4.inn, bx, upd_same, i1.append i2, hm, ?_⟩
  cases r with
  | ok gs =>
    intro B5 H5 dx5 fs s5 b5 h5 f5
    refine ⟨rfl, ?_⟩
    have s6 : Stp0 B1 H1 B5 H5 := s4.trans s5 fun a e => .inr (by rw [e]; exact fre_of hx)
    have s7 := s6.seal hx b5 h5
    exact g _ _ H5 s7 (.obj upd_same (f5.mono fun a u e => by rw [upd_ne (ne_of_none e b5)]; exact e)) rfl
  | ex C' d =>
    intro dd B5 H5 s5 f
    exact g dd B5 H5 (s4.trans s5 fun a e => .inr (by rw [e]; exact fre_of hx)) f
theorem ex_make0 {XE : XK} {dvs : List V} {ys : List D} (hd : ∀ B, IsA B dvs ys) (h : EA W tA mA) : EX W (tMake C (spW C m) dvs XE tA) (mMake0 C (fun xs => m (xs ++ ys)) mA) :=
  ex_bndA (t := fun vs σ H1 Q => ∀ x dx, H1 x = none → H1 dx = none → dx ≠ x → spW C m (.ref x :: (vs ++ dvs)) (upd (upd H1 dx (.own x)) x (.ins C dx [])) (fun v H2 => v = .non ∧ Q (.ref x) H2) XE) h fun xs ε r e q => by
    obtain ⟨z, hz, rfl, rfl⟩ := lif_inv q
    cases hm : ok0 (m (xs ++ ys)) with
    | none => rw [hm] at hz; cases hz
    | some gs =>
      rw [hm] at hz
      cases hz
      exact ⟨.refl _, fun B H σ Q vs k i g x dx hx hdx hne => make_at k i (hd B) hx hdx hne (ok0_inv hm) fun v B2 H2 s2 i2 _ => g B2 H2 s2.zero (k.step0 s2) v i2⟩
theorem ex_make {XE : XK} {dvs : List V} {ys : List D} (hW : ∀ c d σ H, W c d σ H → XE c d H) (hd : ∀ B, IsA B dvs ys) (h : EA W tA mA) : EX W (tMake C (spW C m) dvs XE tA) (mMake C (fun xs => m (xs ++ ys)) mA) :=
  ex_bndA (t := fun vs σ H1 Q => ∀ x dx, H1 x = none → H1 dx = none → dx ≠ x → spW C m (.ref x :: (vs ++ dvs)) (upd (upd H1 dx (.own x)) x (.ins C dx [])) (fun v H2 => v = .non ∧ Q (.ref x) H2) XE) h fun xs ε r e q => by
    rcases bnd_inv q with ⟨C', d, q1, rfl⟩ | ⟨gs, e1, q1, q2⟩
    · obtain ⟨hm, rfl⟩ := rs_inv q1
      exact ⟨.refl _, fun B H σ Q vs k i g x dx hx hdx hne => make_at (r := .ex C' d) k i (hd B) hx hdx hne hm fun dd B2 H2 s2 f => hW _ _ _ _ (g dd B2 H2 s2.zero (k.step0 s2) f)⟩
    · obtain ⟨hm, rfl⟩ := rs_inv q1
      cases q2
      exact ⟨.refl _, fun B H σ Q vs k i g x dx hx hdx hne => make_at (r := .ok gs) k i (hd B) hx hdx hne hm fun v B2 H2 s2 i2 _ => g B2 H2 s2.zero (k.step0 s2) v i2⟩
theorem no_dvs (B : Hp) : IsA B [] [] := .nil
end
end Wd
/-! Own errors: made, read, asked for their class, raised, caught and kept. -/
namespace Wd
open PySem PySem.Spec PyProof.Rows L2
theorem exv_ok {P : Program} {w : World} {H : Hp} {h : Heap} {a : Addr} {cls : Value} {d : Option Addr} {oe : Obj} {vs : Array Value} (e : h.get? a = some oe) (z : Zc cls d oe) (hd : oe.data = .fields vs) : ObjOk P w H h a (exv a cls d) :=
  ⟨⟨oe, vs, e, z, hd⟩, ⟨oe, e⟩, fun _ _ q k => by
    obtain ⟨o, us, e1, z1, d1⟩ := q
    exact ⟨o, us, k o e1, z1, d1⟩⟩
theorem exv_at {P : Program} {w : World} {H : Hp} {h : Heap} {a : Addr} {cls : Value} {d : Option Addr} (hok : HOk P w H h) (e : H a = some (exv a cls d)) : ∃ oe vs, h.get? a = some oe ∧ Zc cls d oe ∧ oe.data = .fields vs := by
  have x : ObjOk P w H h a (.ext fun h => ∃ oe vs, h.get? a = some oe ∧ Zc cls d oe ∧ oe.data = .fields vs) := hok a _ e
  exact x.1
theorem nt_exv {a : Addr} {cls : Value} {d : Option Addr} : ∀ ps, exv a cls d ≠ .tbl ps := fun ps z => by
  have z' : HO.ext _ = HO.tbl ps := z
  cases z'
section
variable {X : Cx} {pins : List (Addr × Obj)} {σ : L2.St} {H : Hp} {s : Shared}
/-- a new object of ours is told from now on -/
theorem inv_track {a : Addr} {o : HO} (I : Inv X pins σ H s) (hn : H a = none) (h0 : X.s_0.heap.get? a = none) (new : ObjOk X.prog X.w (upd H a o) s.heap a o) (nL : X.env.locals ≠ a) (nC : ∀ x c, X.env.cells.lookup x = some c → c ≠ a)
    (nP : ∀ p ∈ X.pn ++ pins, p.1 ≠ a) : Inv X pins σ (upd H a o) s := by
  have out : ∀ {b : Addr} {u : HO}, H b = some u → upd H a o b = some u := fun {b u} e => by rw [upd_ne (ne_of_none e hn)]; exact e
  refine ⟨I.ok, I.os, I.bare, ⟨I.base.keep, I.base.slot, fun b u e n hx => ?_, I.base.there, fun b xs e => out (I.base.tups b xs e), fun b u x e => out (I.base.frzs b u x e), fun b ps e => ?_⟩, I.loc, I.cell, ?_, fun x c e => ?_, fun p hp => ?_, fun b u e => ?_, I.len⟩
  · rw [upd_ne (fun z => by rw [z, h0] at e; cases e)]
    exact I.base.free b u e n hx
  · obtain ⟨m, q⟩ := I.base.tbls b ps e
    exact ⟨m, out q⟩
  · rw [upd_ne nL]; exact I.free
  · rw [upd_ne (nC x c e)]; exact I.freeC x c e
  · obtain ⟨e, n, r⟩ := I.pin p hp
    exact ⟨e, by rw [upd_ne (nP p hp)]; exact n, r⟩
  · by_cases hb : b = a
    · subst hb
      rw [upd_same] at e
      cases e
      exact new
    · rw [upd_ne hb] at e
      exact (I.hok b u e).stay (fun c v _ q => q) (fun c q => out q) fun c xs q => out q
/-- told otherwise -/
theorem inv_retell {a : Addr} {o : HO} (I : Inv X pins σ H s) (mu : Mut (H a)) (there : ∃ u, s.heap.get? a = some u) (new : ObjOk X.prog X.w (upd H a o) s.heap a o) : Inv X pins σ (upd H a o) s := by
  have := I.write (x := a) (e := a) (o := o) (h' := s.heap) (t' := s.toks) mu (.inl rfl) (fun b u _ q => q) there new
  exact this
end
/-! ### an error made -/
/-- what an __init__ that keeps its value leaves -/
def spErr (K : PySem.W.Frag) : Sp := fun vs H Q _ => ∃ (a C : Addr) (x : V), vs = [.ref a, x] ∧ OexC K C ∧ PySem.W.findIn K (.ref C) "value" = some none ∧ H a = some (exo a C none) ∧
  ∀ dx, H dx = none → dx ≠ a → Q .non (upd (upd H dx (exd dx [("value", x)])) a (exo a C (some dx)))
/-- what the text's top says of an error's class -/
structure ErrC (K : PySem.W.Frag) (C fI : Addr) : Prop where
  oex : OexC K C
  noV : PySem.W.findIn K (.ref C) "value" = some none
  iC : PySem.W.findIn K (.ref C) "__init__" = some (some (.ref fI))
  tI : PySem.W.typeIn K (.ref fI) = some (.type "function")
  ga : PySem.W.findIn K (.ref C) "__getattribute__" = some (some (.builtin "BaseException.__getattribute__"))
  gg : PySem.W.findIn K (.ref C) "__getattr__" = some none
  hdC : PySem.W.hasDictIn K C = true
  ca : PySem.W.findIn K (.ref C) "__class__" = some (some (.builtin "object.__class__"))
  cn : PySem.W.specialIn K (.builtin "object.__class__") "__get__" = some (some (.builtin "getset_descriptor.__get__"))
  ct : PySem.W.takesIn K (.builtin "object.__class__") = some true
  cm : PySem.W.mroIn K C (.type "object") = some true
/-- C(e) as a value -/
def tMkE (C : Addr) (ta : TA) : TE := fun σ H Q => ta σ H fun vs H1 => ∃ x, vs = [x] ∧ ∀ a dx, H1 a = none → H1 dx = none → dx ≠ a → Q (.ref a) (upd (upd H1 dx (.xd [("value", x)])) a (exv a (.ref C) (some dx)))
section
variable {X : Cx} {x : Str} {C fI : Addr} {k : Nat} {fd : FuncData} {e : Expr} {ta : TA} {p pos : Pos}
theorem pe_mkE (T : ErrC X.K C fI) (F1 : FnOk X.prog X.w X.K X.mg X.base CX0 k fI fd ["self", "value"] (spErr X.K)) (hr : Room (k + 1) X.A) (hb : Binds X.K fd ["self", "value"] []) (hg : Gl X x) (hm : X.mg x = some (.ref C)) (ha : PA X [e] ta)
    (hdb : (x == ("__debug__" : Str)) = false := by decide) (he : starEach [e] X.env = (false, eval e X.env) :: starEach [] X.env := by rfl) : PE X (.Call (.Name x p) [e] [] pos) (tMkE C ta) := by
  refine ⟨fun pins s σ H Q I h => ?_⟩
  obtain ⟨nm, q, N, bs, bm, sn, sub, ab, col, dd, k0, k1, k2, k3, k5, hC, hbm⟩ := T.oex.cls
  refine wpAny_Call_Name_kw (ld_glob I hg hm ?_ hdb)
  refine PySem.W.callWith_K (h₀ := X.base) I.ok.mod.kin T.oex.kC (thn (ha.run pos pins s σ H _ I h) fun us s1 ⟨vs, H1, I1, r1, x, hv, q1⟩ => ⟨I1.kIn, ?_⟩) he (by rfl)
  subst hv
  show wpAny _ _ (call (.ref C) us) _ _ _
  obtain ⟨hp, g, dr, tk, os⟩ := s1
  have hsz : hp.objs.size ≤ hp.objs.size + 1 := Nat.le_succ _
  have hn : H1 (hp.objs.size + 1) = none := I1.hok.fresh hsz
  have kk : ∀ b o, hp.get? b = some o → ((hp.push (PySem.W.kdv_tup us)).push (PySem.HandSPX.excO C hp.objs.size)).get? b = some o := fun b o e => Heap.get?_push_of_some _ (Heap.get?_push_of_some _ e)
  have hget : ((hp.push (PySem.W.kdv_tup us)).push (PySem.HandSPX.excO C hp.objs.size)).get? (hp.objs.size + 1) = some (PySem.HandSPX.excO C hp.objs.size) := by heap_get
  have I2 : Inv X pins σ (upd H1 (hp.objs.size + 1) (exo (hp.objs.size + 1) C none)) ⟨(hp.push (PySem.W.kdv_tup us)).push (PySem.HandSPX.excO C hp.objs.size), g, dr, tk, os⟩ :=
    I1.laid (t' := tk) (a := hp.objs.size + 1) (o := exo (hp.objs.size + 1) C none) (h' := (hp.push (PySem.W.kdv_tup us)).push (PySem.HandSPX.excO C hp.objs.size)) kk hsz (exo_ok hget)
  have r2 : Vals [V.ref (hp.objs.size + 1), x] (Value.ref (hp.objs.size + 1) :: us) := .cons rfl r1
  have hl : us.length ≤ sizeLine := by
    rw [← Paired.length r1, sizeLine_eq]
    show 1 ≤ 16777216
    decide
  have hl2 : (Value.ref (hp.objs.size + 1) :: us ++ ([] : List Value)).length = (["self", "value"] : List Str).length := by
    rw [List.append_nil]
    exact r2.length.symm
  have hq : spErr X.K [V.ref (hp.objs.size + 1), x] (upd H1 (hp.objs.size + 1) (exo (hp.objs.size + 1) C none))
      (fun v H2 => v = .non ∧ ∃ dx, H1 dx = none ∧ dx ≠ hp.objs.size + 1 ∧ H2 = upd (upd (upd H1 (hp.objs.size + 1) (exo (hp.objs.size + 1) C none)) dx (exd dx [("value", x)])) (hp.objs.size + 1) (exo (hp.objs.size + 1) C (some dx))) (fun _ _ _ => False) :=
    ⟨_, C, x, rfl, T.oex, T.noV, upd_same, fun dx hdx hne => ⟨rfl, dx, by rw [upd_ne hne] at hdx; exact hdx, hne, rfl⟩⟩
  refine wpAny_call (PySem.HandSPX.call_own F.excBase_ValueError (fun Y => PySem.HandSPX.refsVE_contains Y bm hbm) (I1.kIn _ _ hC) (PySem.W.looks_findIn I1.kIn T.iC) (fun self => PySem.W.bind_fn I1.kIn self T.tI) hl
    (codeAny_mono (F1.run _ X.stack _ _ ⟨Value.ref (hp.objs.size + 1) :: us, []⟩ (Value.ref (hp.objs.size + 1) :: us) _ _ (fun _ _ _ => False) (hr.make C us []) (I2.env0.make C us []) (by have := hb _ (Value.ref (hp.objs.size + 1) :: us) I2.kIn hl2; simpa using this) r2 hq) fun r s' hq' => ?_))
  cases r with
  | error er => exact False.elim hq'
  | ok fl =>
    cases fl with
    | next => exact False.elim hq'
    | brk => exact False.elim hq'
    | cont => exact False.elim hq'
    | ret u =>
      obtain ⟨v, H2, J, rv, ev, dx, n1, n2, rfl⟩ := I2.after hq'
      subst ev
      refine ⟨rv, ?_⟩
      obtain ⟨t0, ho⟩ := exo_at J.hok (by rw [upd_same])
      obtain ⟨mA, hns, rel⟩ := exd_at J.hok (dx := dx) (fs := [("value", x)]) (by rw [upd_ne n2, upd_same])
      have J2 := inv_retell J (a := hp.objs.size + 1) (o := exv (hp.objs.size + 1) (.ref C) (some dx)) (by rw [upd_same]; exact True.intro) ⟨_, ho⟩ (exv_ok ho ⟨rfl, rfl⟩ rfl)
      have J3 := inv_retell J2 (a := dx) (o := .xd [("value", x)]) (by rw [upd_ne n2, upd_ne n2, upd_same]; exact True.intro) (let ⟨o, _, _, e1, _⟩ := hns; ⟨o, e1⟩) ⟨mA, hns, rel⟩
      have eH : upd (upd (upd (upd (upd H1 (hp.objs.size + 1) (exo (hp.objs.size + 1) C none)) dx (exd dx [("value", x)])) (hp.objs.size + 1) (exo (hp.objs.size + 1) C (some dx))) (hp.objs.size + 1) (exv (hp.objs.size + 1) (.ref C) (some dx))) dx (.xd [("value", x)]) =
          upd (upd H1 dx (.xd [("value", x)])) (hp.objs.size + 1) (exv (hp.objs.size + 1) (.ref C) (some dx)) := by
        funext b
        by_cases h1 : b = dx
        · subst h1
          rw [upd_same, upd_ne n2, upd_same]
        · by_cases h2 : b = hp.objs.size + 1
          · rw [upd_ne h1, h2, upd_same, upd_same]
          · rw [upd_ne h1, upd_ne h2, upd_ne h2, upd_ne h1, upd_ne h2, upd_ne h2, upd_ne h1]
      rw [eH] at J3
      exact ⟨.ref (hp.objs.size + 1), _, J3, rfl, q1 _ dx hn n1 n2⟩
/-- e.value, e an error -/
def tFldE (K : PySem.W.Frag) (te : TE) (f : Str) : TE := fun σ H Q => te σ H fun v H1 => ∃ (a C dd : Addr) (fs : List (Str × V)) (u : V), v = .ref a ∧ H1 a = some (exv a (.ref C) (some dd)) ∧ H1 dd = some (.xd fs) ∧ XfC K C ∧ PySem.W.findIn K (.ref C) f = some none ∧ fs.lookup f = some u ∧ Q u H1
theorem pe_fldE {te : TE} {f : Str} (he : PE X e te) (hb : attributeBase e f X.env (eval e X.env) = eval e X.env := by rfl) : PE X (.Attribute e f pos) (tFldE X.K te f) := by
  refine ⟨fun pins s σ H Q I h => ?_⟩
  refine attr_of hb (thn (he.run pins s σ H _ I h) fun u s1 hh => ?_)
  obtain ⟨v, H1, I1, rv, a, C, dd, fs, w, rfl, ea, ed, T, hno, l, q⟩ := hh
  obtain rfl : u = Value.ref a := rv
  obtain ⟨oe, vs, ho, hz, hd⟩ := exv_at I1.hok ea
  have hx : ObjOk X.prog X.w H1 s1.heap dd (.xd fs) := I1.hok dd _ ed
  obtain ⟨mA, hns, hr⟩ := hx
  obtain ⟨od, hod, hl⟩ := lookIn_ns hns
  obtain ⟨z, hu, ru⟩ := RelO.some_of (v := w) (o := mA f) (by rw [← l]; exact hr f)
  have J : PySem.W.InstAt s1.heap a oe C (some od) := ⟨ho, hz.1, by unfold PySem.W.notCls; rw [hd] <;> rfl, by rw [hz.2]; exact hod⟩
  exact HandSPX.exc_get I1.kIn J T.ga T.gg T.exC (PySem.W.findObj_own T.hdC hno rfl (by rw [hl, hu])) (handed_of ru) ⟨w, H1, I1.tok _, ru, q⟩
/-- isinstance(e, T), e an error -/
def rIsE (K : PySem.W.Frag) : List V → Hp → VK → Prop := fun xs H Q => ∃ (a C fI dd : Addr) (fs : List (Str × V)) (c : V) (u : Value) (b : Bool), xs = [.ref a, c] ∧ H a = some (exv a (.ref C) (some dd)) ∧ H dd = some (.xd fs) ∧ ErrC K C fI ∧ ClsV c u ∧ PySem.W.kitOne K (.ref C) u = some b ∧ Q (.bl b) H
theorem call_isE {X : Cx} : CallR X (.builtin "isinstance") (rIsE X.K) := by
  intro pins s σ H xs us Q I r h
  obtain ⟨a, C, fI, dd, fs, c, cv, b, rfl, ea, ed, T, hc, e, q⟩ := h
  obtain ⟨u1, u2, rfl, r1, r2⟩ := vals2 r
  cases (show u1 = Value.ref a from r1)
  have e2 := hc.eq r2
  subst e2
  obtain ⟨oe, vs, ho, hz, hd⟩ := exv_at I.hok ea
  have hx : ObjOk X.prog X.w H s.heap dd (.xd fs) := I.hok dd _ ed
  obtain ⟨mA, hns, hr⟩ := hx
  obtain ⟨od, hod, hl⟩ := lookIn_ns hns
  have J : PySem.W.InstAt s.heap a oe C (some od) := ⟨ho, hz.1, by unfold PySem.W.notCls; rw [hd] <;> rfl, by rw [hz.2]; exact hod⟩
  have hcl : (PySem.W.clsIn X.K C).isSome = true := by
    obtain ⟨nm, q, N, bs, bm, sn, sub, ab, col, dd, k0, k1, k2, k3, k5, hC, hbm⟩ := T.oex.cls
    unfold PySem.W.clsIn
    rw [hC] <;> rfl
  exact PySem.W.kia_one (PySem.W.kitx_exc hcl T.ga T.gg T.oex.exC T.ca T.cn T.ct T.cm) I.kIn J e (fun z => nomatch z) fun tk => ⟨.bl b, H, I.tok tk, rfl, q⟩
end
end Wd
/-! Mirrors of own errors. -/
namespace Wd
open PySem PySem.Spec L2
section
variable [Tab] {W : WX} {K : PySem.W.Frag} {te : TE} {me : M D} {tA : TA} {mA : M (List D)} {pn : Bool}
theorem stp_err {B H : Hp} {a dx C : Addr} {x : V} (s : Sb B H) (ha : H a = none) (hd : H dx = none) (hne : dx ≠ a) :
    Stp0 B H (upd (upd B dx (.xd [("value", x)])) a (exv a (.ref C) (some dx))) (upd (upd H dx (.xd [("value", x)])) a (exv a (.ref C) (some dx))) := by
  have s1 : Stp0 B H (upd B dx (.xd [("value", x)])) (upd H dx (.xd [("value", x)])) := .new s hd
  have h2 : upd H dx (.xd [("value", x)]) a = none := by rw [upd_ne hne.symm]; exact ha
  exact s1.trans0 (.new s1.inn h2 nt_exv)
/-- C(e) as a value -/
def mErr (C : Addr) (mA : M (List D)) : M D := bnd mA fun xs => lif (match xs with
  | [x] => some (.err C [("value", x)])
  | _ => none)
theorem ex_mkE {C : Addr} (h : EA W tA mA) : EX W (tMkE C tA) (mErr C mA) :=
  ex_bndA (t := fun vs σ H1 Q => ∃ x, vs = [x] ∧ ∀ a dx, H1 a = none → H1 dx = none → dx ≠ a → Q (.ref a) (upd (upd H1 dx (.xd [("value", x)])) a (exv a (.ref C) (some dx)))) h fun xs => exa_lif fun z hz B H σ v Q s i q => by
    split at hz
    · rename_i x
      cases hz
      cases i with
      | cons h1 h2 =>
        cases h2
        rename_i v
        refine ⟨v, rfl, fun a dx ha hd hne => ?_⟩
        have s2 := stp_err (C := C) (x := v) s ha hd hne
        exact q _ _ _ s2 (.err upd_same (by rw [upd_ne hne, upd_same]) (.cons (h1.mono s2.up) .nil))
    · cases hz
/-- the fields of errors -/
def valF (kn : Addr → Bool) (f : Str) : D → Option D
  | .err C gs => if kn C then gs.lookup f else none
  | _ => none
theorem ex_fldE {kn : Addr → Bool} {f : Str} (hk : ∀ C, kn C = true → XfC K C ∧ PySem.W.findIn K (.ref C) f = some none) (h : EX W te me) : EX W (tFldE K te f) (mUn (valF kn f) me) :=
  ex_un (r := fun v H1 Q => ∃ (a C dd : Addr) (fs : List (Str × V)) (u : V), v = .ref a ∧ H1 a = some (exv a (.ref C) (some dd)) ∧ H1 dd = some (.xd fs) ∧ XfC K C ∧ PySem.W.findIn K (.ref C) f = some none ∧ fs.lookup f = some u ∧ Q u H1) (fun x z hz B H v Q s i q => by
    unfold valF at hz
    split at hz
    · split at hz
      · rename_i C gs hkn
        cases i with
        | err ha hd hf =>
          obtain ⟨w, g1, g2⟩ := hf.lookup hz
          exact ⟨_, _, _, _, w, rfl, s _ _ ha, s _ _ hd, (hk C hkn).1, (hk C hkn).2, g1, q w B H (.refl s) g2⟩
      · cases hz
    · cases hz) h
/-- what an own class must be so that a value of it can be asked for its class -/
structure ClsK (K : PySem.W.Frag) (C : Addr) : Prop where
  cl : Cls K C
  ca : PySem.W.findIn K (.ref C) "__class__" = some (some (.builtin "object.__class__"))
  cn : PySem.W.specialIn K (.builtin "object.__class__") "__get__" = some (some (.builtin "getset_descriptor.__get__"))
  ct : PySem.W.takesIn K (.builtin "object.__class__") = some true
  cm : PySem.W.mroIn K C (.type "object") = some true
/-- the class of data -/
def D.ty : D → Value
  | .non => .type "NoneType"
  | .bl _ => .type "bool"
  | .int _ => .type "int"
  | .str _ => .type "str"
  | .lst _ => .type "list"
  | .tup _ => .type "tuple"
  | .dic _ => .type "dict"
  | .scr _ => .type "list"
  | .obj C _ => .ref C
  | .err C _ => .ref C
theorem Is.tyOf {B H : Hp} {v : V} {y : D} (h : Is B v y) (s : Sb B H) (hk : ∀ C gs, y = .obj C gs → ClsK K C) (he : ∀ C gs, y ≠ .err C gs) : TyOf K H v y.ty := by
  cases h with
  | non => exact .non
  | bl b => exact .bl b
  | int i => exact .int i
  | str x => exact .str x
  | lst ha _ => exact .lst (s _ _ ha)
  | tup ha _ => exact .tup (s _ _ ha)
  | dic ha _ => exact .dK (s _ _ ha)
  | scr ha _ => exact .frz (s _ _ ha)
  | obj ha _ => have c := hk _ _ rfl; exact .ins (s _ _ ha) c.cl c.ca c.cn c.ct c.cm
  | err ha _ _ => exact absurd rfl (he _ _)
/-- isinstance: by the text's own classes, its errors, all else -/
def isiF (cls err : Addr → Option Bool) (prim : D → Bool) (x : D) : Option D := match x with
  | .obj C _ => (cls C).map .bl
  | .err C _ => (err C).map .bl
  | x => some (.bl (prim x))
def rIsU (K : PySem.W.Frag) : List V → Hp → VK → Prop := fun xs H Q => rIsi K xs H Q ∨ rIsE K xs H Q
theorem k_isU {X : Cx} (hK : X.K = K) : CallR X (.builtin "isinstance") (rIsU K) := hK ▸ call_isi.or call_isE
/-- what an answer of isinstance leans on -/
structure IsiOk (K : PySem.W.Frag) (T : Value) (cls err : Addr → Option Bool) (prim : D → Bool) : Prop where
  cls : ∀ C b, cls C = some b → PySem.W.kitOne K (.ref C) T = some b ∧ ClsK K C
  err : ∀ C b, err C = some b → PySem.W.kitOne K (.ref C) T = some b ∧ ∃ fI, ErrC K C fI
  prim : ∀ x, (∀ C gs, x ≠ .obj C gs) → (∀ C gs, x ≠ .err C gs) → PySem.W.kitOne K x.ty T = some (prim x)
theorem ex_isi {c : V} {T : Value} {cls err : Addr → Option Bool} {prim : D → Bool} (hc : ClsV c T) (hT : IsiOk K T cls err prim) (h : EX W te me) : EX W (tCB (rIsU K) (tCons te (tCons (tC c) tNil))) (mUn (isiF cls err prim) me) :=
  ex_bnd (t := fun v σ H1 Q => rIsU K [v, c] H1 Q) h fun x => exv_lif fun z hz B H σ v Q s i q => by
    by_cases hx : ∃ C gs, x = .err C gs
    · obtain ⟨C, gs, rfl⟩ := hx
      simp only [isiF] at hz
      cases e : err C with
      | none => rw [e] at hz; cases hz
      | some b =>
        rw [e] at hz
        cases hz
        obtain ⟨h1, fI, h2⟩ := hT.err C b e
        cases i with
        | err ha hd hf => exact .inr ⟨_, _, fI, _, _, c, T, b, rfl, s _ _ ha, s _ _ hd, h2, hc, h1, q _ B H (.refl s) (.bl b)⟩
    · have hne : ∀ C gs, x ≠ .err C gs := fun C gs e => hx ⟨C, gs, e⟩
      by_cases ho : ∃ C gs, x = .obj C gs
      · obtain ⟨C, gs, rfl⟩ := ho
        simp only [isiF] at hz
        cases e : cls C with
        | none => rw [e] at hz; cases hz
        | some b =>
          rw [e] at hz
          cases hz
          obtain ⟨h1, h2⟩ := hT.cls C b e
          exact .inl ⟨v, c, .ref C, T, b, rfl, hc, .base (i.tyOf s (fun C' gs' z => by cases z; exact h2) hne), h1, q _ B H (.refl s) (.bl b)⟩
      · have hno : ∀ C gs, x ≠ .obj C gs := fun C gs e => ho ⟨C, gs, e⟩
        have ez : z = .bl (prim x) := by
          unfold isiF at hz
          split at hz
          · exact absurd rfl (hno _ _)
          · exact absurd rfl (hne _ _)
          · cases hz; rfl
        subst ez
        exact .inl ⟨v, c, x.ty, T, prim x, rfl, hc, .base (i.tyOf s (fun C' gs' z => absurd z (hno _ _)) hne), hT.prim x hno hne, q _ B H (.refl s) (.bl _)⟩
/-! ### raise -/
/-- raise C(e): the making, by its own reading -/
def sRaise (C : Addr) (me : M D) : S := sVal me fun d e => some (.ex C d, e)
theorem sx_raise {C : Addr} (hT : OexC K C) (hN : PySem.W.findIn K (.ref C) "value" = some none) (he : EX W te me) : SX pn W (fun _ σ H => tMkO C (spErr K) [] (tCons te tNil) σ H fun cls d H' => W cls d σ H') (sRaise C me) := ⟨fun ε o e h F E hp G => by
  rcases sVal_inv h with ⟨d, e1, q, h2⟩ | ⟨C', d, q, rfl⟩
  · cases h2
    intro σ H a
    refine he.at q a (fun d' hd v B1 H1 a1 i1 => ?_) (fun _ _ z => nomatch z)
    cases hd
    refine ⟨by show 1 ≤ 1000; decide, fun a ha => ⟨a, C, v, rfl, hT, hN, upd_same, fun dx hdx hne => ⟨rfl, dx, [("value", v)], upd_same, by rw [upd_ne hne, upd_same], ?_, ?_⟩⟩⟩
    · rw [upd_ne hne] at hdx
      exact hdx
    · have hd1 : H1 dx = none := by rw [upd_ne hne] at hdx; exact hdx
      have eH : upd (del (upd (upd (upd H1 a (exo a C none)) dx (exd dx [("value", v)])) a (exo a C (some dx))) a) dx (.xd [("value", v)]) = upd H1 dx (.xd [("value", v)]) := by
        funext b
        by_cases h1 : b = dx
        · subst h1; rw [upd_same, upd_same]
        · by_cases h2 : b = a
          · rw [upd_ne h1, upd_ne h1, h2, del_same, ha]
          · rw [upd_ne h1, upd_ne h1, del_ne h2, upd_ne h2, upd_ne h1, upd_ne h2]
      rw [eH]
      have s2 : Stp0 B1 H1 (upd B1 dx (.xd [("value", v)])) (upd H1 dx (.xd [("value", v)])) := .new a1.k.sub hd1
      exact G σ _ _ dx ⟨a1.k.step0 s2, a1.s.trans0 s2, a1.m, a1.p⟩ ⟨_, upd_same, .cons (i1.mono s2.up) .nil⟩
  · intro σ H a
    exact he.at q a (fun _ z => nomatch z) fun C'' d' z => by cases z; exact G⟩
end
/-! ### try: .. / except C as n: m = n, the error kept -/
def wKept (K : PySem.W.Frag) (c : Value) (i j : Nat) (Wout : WX) (D : Ends) : WX := fun cls d σ H => ∃ b, PySem.W.exmOne K cls c = some b ∧
  (b = true → ∀ a, H a = none → D.nx (((σ.set i (some (.ref a))).set j (some (.ref a))).set i none) (upd H a (exv a cls d))) ∧ (b = false → Wout cls d σ H)
section
variable {X : Cx} {x n m : Str} {c : Value} {i j : Nat} {body : List Stmt} {np pos pos' q1 q2 q3 : Pos} {tb : WX → TS} {Wout : WX}
theorem ps_keep (hs : X.stack = X.env :: X.outer) (hf : X.env.frame = some X.env.locals) (hex : X.ex = []) (hN : X.N.Nodup) (hi : X.N[i]? = some n) (hj : X.N[j]? = some m) (hln : X.env.kindOf n = some .local) (hlm : Loc X.env.scope m)
    (hfm : X.fn m = true ∨ X.env.scope.names.lookup m = some .local) (hvn : Vis X.env.scope n) (hdn : (n == ("__debug__" : Str)) = false) (hcn : (n == ("__classdict__" : Str)) = false) (hc : Names X x c) (tk : Takes X Wout)
    (hsw : swapsWithSole [.Name m q1] (.Name n q2) q3.line X.env = pure false) (hsp : swappedStores [.Name m q1] (.Name n q2) X.env = pure none) (hae : (assignEach [.Name m q1] X.env).map (·.2) = [assign (.Name m q1) X.env])
    (hb : ∀ (W : WX) (pn : List (Addr × Obj)) (xe : Value → Shared → Prop), Takes (X.tr pn xe) W → PassesOwn (model X.prog X.w) X.A X.env xe → PSs (X.tr pn xe) body (tb W)) :
    PS X (.Try body [.ExceptHandler (some (.Name x np)) (some n) [.Assign [.Name m q1] (.Name n q2) q3] pos'] [] [] pos) (fun D σ H => tb (wKept X.K c i j Wout D) D σ H) := by
  refine ⟨fun pins s σ H D I h => ?_⟩
  have okX := I.ok
  have frames : X.A.frames = some (X.env :: X.outer) := by rw [okX.frames, hs]
  have locn : Loc X.env.scope n := .inl hln
  refine wpAny_Try_except ?_
  refine wpAny_mono ((hb (wKept X.K c i j Wout D) (X.pn ++ pins) (fun e s₁ => wpAny (model X.prog X.w) X.A (noteFrame e X.env) (fun _ s₂ => wpAny (model X.prog X.w) X.A (setFlight e none) (fun _ s₃ =>
    wpAny (model X.prog X.w) X.A (handleBy e X.env [.ExceptHandler (some (.Name x np)) (some n) [.Assign [.Name m q1] (.Name n q2) q3] pos']) (SP X pins D) X.xe s₃) X.xe s₂) X.xe s₁) (fun u s' xx => ?_) PassesOwn.looking).run [] s σ H D (I.toTry _) h) (fun f s1 hsp => ?_) (fun e s1 he => he)
  · obtain ⟨a, B, sI, pins', σ', H', cls, d, rfl, J', nb, up, sky, na, os, ag, b, hb1, hyes, hno⟩ := xx
    have J : Inv X pins σ' H' sI := J'.ofTry okX
    rw [hs] at sky
    show wpAny (model X.prog X.w) X.A (noteFrame (.ref a) X.env) _ _ _
    refine Sky.land Zc.steady frames hf sky fun h3 fl3 up3 => ?_
    have J3 : Inv X pins σ' H' { s' with heap := h3 } := J.landed nb fl3.1 (up.trans up3) os ag
    obtain ⟨oe3, vs3, he3, hz3, hd3⟩ := fl3.there
    have nfr : a ∉ frs (X.env :: X.outer) := fun hm => by
      obtain ⟨_, o', e', hnf⟩ := fl3.2.2.1.mem hm
      rw [he3] at e'
      cases e'
      exact hnf _ hd3
    have nL : a ≠ X.env.locals := fun z => nfr (List.mem_filterMap.mpr ⟨X.env, List.mem_cons_self, by rw [hf, z]⟩)
    have nF : a ∉ X.fs := fun hm => by
      obtain ⟨e, he, q⟩ := List.mem_filterMap.mp hm
      exact nfr (List.mem_filterMap.mpr ⟨e, List.mem_cons_of_mem _ he, q⟩)
    have S3 := J3.suite he3 hd3 na nL nF
    -- new since the def began
    have nI : sI.heap.get? a = none := by
      cases q : sI.heap.get? a with
      | none => rfl
      | some o =>
        have := nb a o q (by rw [hs]; exact nfr)
        rw [fl3.2.1] at this
        cases this
    have n0 : X.s_0.heap.get? a = none := by
      cases q : X.s_0.heap.get? a with
      | none => rfl
      | some o =>
        obtain ⟨o', q'⟩ := J.base.there a o q (by rw [hex]; simp)
        rw [nI] at q'
        cases q'
    have nPins : ∀ p ∈ X.pn ++ pins, p.1 ≠ a := fun p hp z => by
      have := (J.pin p hp).1
      rw [z, nI] at this
      cases this
    refine wpAny_handleBy_cons (codeAny_handlers_test ?_) (by intro q; cases q)
    have LT : PySem.W.Looks (model X.prog X.w) h3 (typeOf (.ref a)) cls := fun A Q E s k q => wpAny_typeOf_ref (k _ _ he3) (by rw [hz3.1]; exact q)
    have LM := PySem.W.exm_one (M := model X.prog X.w) (J3.kIn) LT hb1
    have test : ∀ {Q : Value → Shared → Prop} {E : Value → Shared → Prop}, Q c { s' with heap := h3 } → wpAny (model X.prog X.w) (X.A.mark (some (.ref a))) (eval (.Name x np) X.env) Q E { s' with heap := h3 } := fun {Q E} q => by
      obtain ⟨hg, hdbg, hm | ⟨hm, hv, hnn⟩⟩ := hc
      · exact ld_glob (X := X.suite a ((a, oe3) :: (X.pn ++ pins))) S3 hg hm q hdbg
      · exact ld_blt (X := X.suite a ((a, oe3) :: (X.pn ++ pins))) S3 hg hm hv q hnn hdbg
    refine test (LM.here ?_)
    cases b with
    | true =>
      refine codeAny_handlers_suite_as ?_
      refine HandSPX.lands_againZ fl3 fun h4 fl4 up4 => ?_
      have J4 : Inv X pins σ' H' { s' with heap := h4 } := J.landed nb fl4.1 ((up.trans up3).trans up4) os ag
      obtain ⟨oe4, vs4, he4, hz4, hd4⟩ := fl4.there
      have S4 := J4.suite he4 hd4 na nL nF
      refine store_ok (X := X.suite a ((a, oe4) :: (X.pn ++ pins))) (v := .ref a) S4 hN hi locn rfl (fun s5 S5 => ?_) (.inr hln)
      have suite : PSs (X.suite a ((a, oe4) :: (X.pn ++ pins))) [.Assign [.Name m q1] (.Name n q2) q3] (tAsg (tVar i) (gName j)) :=
        pss_one (ps_asg (pe_var hi hvn hdn hcn) (pg_name hN hj hlm hfm) hsw hsp hae)
      have hi' : i < σ'.length := by rw [J4.len]; exact (List.getElem?_eq_some_iff.mp hi).1
      refine wpAny_mono (suite.run [] s5 _ H' { nx := fun τ H6 => τ = (σ'.set i (some (.ref a))).set j (some (.ref a)) ∧ H6 = H', rt := fun _ _ => False } S5 ⟨.ref a, by rw [List.getElem?_set_self hi'], rfl, rfl⟩) (fun f s6 hsp => ?_) (fun _ _ z => False.elim z)
      cases f with
      | next =>
        obtain ⟨σ6, H6, S6, rfl, rfl⟩ := hsp
        obtain ⟨p1, p2, _⟩ := S6.pin (a, oe4) (List.mem_append_left _ List.mem_cons_self)
        have J6 : Inv X pins _ H6 s6 := S6.unsuite okX
        have J7 := inv_track J6 p2 n0 (exv_ok p1 hz4 hd4) (Ne.symm nL) (fun y z e w => by
          obtain ⟨v, o, q, r⟩ := J6.cell y z e
          rw [w, p1] at q
          cases q
          rw [hd4] at r
          cases r) nPins
        exact gone_ok J7 hN hi hln fun s7 J8 => ⟨_, _, J8, hyes rfl a p2⟩
      | brk =>
        obtain ⟨_, _, _, z⟩ := hsp
        exact z.elim
      | cont =>
        obtain ⟨_, _, _, z⟩ := hsp
        exact z.elim
      | ret u =>
        obtain ⟨_, _, _, _, _, z⟩ := hsp
        exact z.elim
    | false =>
      show wpAny _ X.A (handleBy (.ref a) X.env []) _ _ _
      refine wpAny_handleBy_nil ?_
      obtain ⟨k1, k2, k3, oe, vs, T, oT, ts', he, hz, hd, h1, hr⟩ := id fl3
      unfold PySem.passOn
      refine wpAny_bind (wpAny_field he hd h1 ?_)
      rw [if_neg (show ¬ ((Value.ref T == Value.none) = true) from by simp)]
      have fin : wpAny (model X.prog X.w) X.A (setFlight (.ref a) X.env.frame) (fun _ s4 => wpAny (model X.prog X.w) X.A (throw (.ref a) : Sem Flow) (SP X pins D) X.xe s4) X.xe { s' with heap := h3 } := by
        rw [hf]
        refine HandSPX.setFlight_upZ fl3 fun h4 hh4 up4 => wpAny_throw (tk _ _ ?_)
        exact ⟨a, B, sI, pins, σ', H', cls, d, rfl, J, nb, (up.trans up3).trans up4, .inr (.inr (by rw [hs]; exact hh4)), na, os, ag, hno rfl⟩
      first
        | exact wpAny_bind (wpAny_pure (wpAny_bind fin))
        | exact wpAny_bind fin
  · cases f with
    | next =>
      obtain ⟨σ', H', J', q⟩ := hsp
      exact wpAny_execs_nil ⟨σ', H', J'.ofTry okX, q⟩
    | brk =>
      obtain ⟨σ', H', J', q⟩ := hsp
      exact ⟨σ', H', J'.ofTry okX, q⟩
    | cont =>
      obtain ⟨σ', H', J', q⟩ := hsp
      exact ⟨σ', H', J'.ofTry okX, q⟩
    | ret u =>
      obtain ⟨v, σ', H', J', r, q⟩ := hsp
      exact ⟨v, σ', H', J'.ofTry okX, r, q⟩
end

section
variable [Tab] {pn : Bool} {W : WX} {K : PySem.W.Frag}
theorem Knw.set_no {B H : Hp} {σ : L2.St} {ε : Sl} {i : Nat} {x : Option V} (k : Knw B H σ ε) : Knw B H (σ.set i x) (ε.set i .no) := by
  have le : Le (ε.set i .no) ε := ⟨List.length_set, fun j e q => by
    by_cases hj : i = j
    · subst hj
      by_cases hl : i < ε.length
      · rw [List.getElem?_set_self hl] at q; exact .inl (Option.some.inj q).symm
      · rw [List.getElem?_eq_none (by rw [List.length_set]; omega)] at q; cases q
    · rw [List.getElem?_set_ne hj] at q; exact .inr q⟩
  refine (k.weak le).slots List.length_set fun j e q hn => ?_
  by_cases hj : i = j
  · subst hj
    by_cases hl : i < ε.length
    · rw [List.getElem?_set_self hl] at q; exact absurd (Option.some.inj q).symm hn
    · rw [List.getElem?_eq_none (by rw [List.length_set]; omega)] at q; cases q
  · rw [List.getElem?_set_ne hj]
theorem mu_set_no {σ : L2.St} {ε : Sl} {i : Nat} {x : Option V} {a : Addr} (m : Mu (σ.set i x) (ε.set i .no) a) : Mu σ ε a := by
  obtain ⟨j, e, q1, q2, q3⟩ := m
  by_cases hj : i = j
  · subst hj
    by_cases hl : i < ε.length
    · rw [List.getElem?_set_self hl] at q1; cases q1; cases q2
    · rw [List.getElem?_eq_none (by rw [List.length_set]; omega)] at q1; cases q1
  · rw [List.getElem?_set_ne hj] at q1 q3
    exact ⟨j, e, q1, q2, q3⟩
/-- try: .. / except T as n: m = n -/
def sKeep (isT : Addr → Option Bool) (i j : Nat) (mb : S) : S := fun ε => match mb ε with
  | some (.ex C d, e) => (match isT C with
    | some true => some (.nx, (e.set i .no).set j (.dat (.err C [("value", d)])))
    | some false => some (.ex C d, e)
    | none => none)
  | r => r
theorem sx_keep {c : Value} {isT : Addr → Option Bool} {i j : Nat} {tb : WX → TS} {mb : S} (hT : ∀ C b, isT C = some b → PySem.W.exmOne K (.ref C) c = some b) (hij : i ≠ j) (hi : i ≠ 0 ∨ pn = false) (hj : j ≠ 0 ∨ pn = false) (hb : ∀ W, SX pn W (tb W) mb) :
    SX pn W (fun D σ H => tb (wKept K c i j W D) D σ H) (sKeep isT i j mb) := ⟨fun ε o e h F E hp G => by
  unfold sKeep at h
  split at h
  · rename_i C d e1 q
    refine (hb (wKept K c i j W E)).run ε _ _ q F E hp ?_
    intro σ B H dd a f
    split at h
    · rename_i hC
      cases h
      refine ⟨true, hT C true hC, fun _ x hx => ?_, fun z => (nomatch z)⟩
      have es : ((σ.set i (some (V.ref x))).set j (some (V.ref x))).set i none = (σ.set i none).set j (some (V.ref x)) := by
        rw [List.set_comm _ _ (Ne.symm hij), List.set_set]
      rw [es]
      obtain ⟨fs, f1, f2⟩ := f
      have s2 : Stp0 B H (upd B x (exv x (.ref C) (some dd))) (upd H x (exv x (.ref C) (some dd))) := .new a.k.sub hx nt_exv
      have k2 := (a.k.step0 s2).set_no (i := i) (x := none)
      have hE : Is (upd B x (exv x (.ref C) (some dd))) (V.ref x) (.err C [("value", d)]) := .err upd_same (s2.up _ _ f1) (f2.mono s2.up)
      refine G _ _ ⟨_, k2.set_dat hE, a.s.trans0 s2, fun y m => a.m y (mu_set_no m.of_set), fun p hq => ?_⟩
      have p1 := a.p p hq
      rcases hi with z | z
      · rcases hj with w | w
        · rw [List.getElem?_set_ne w, List.getElem?_set_ne z]; exact p1
        · rw [hp w] at hq; cases hq
      · rw [hp z] at hq; cases hq
    · rename_i hC
      cases h
      exact ⟨false, hT C false hC, fun z => (nomatch z), fun _ => G σ B H dd a f⟩
    · cases h
  · have : mb ε = some (o, e) := h
    refine (hb (wKept K c i j W E)).run ε o e this F E hp ?_
    cases o with
    | ex C d => rename_i hne; exact absurd this (hne C d e)
    | _ => exact G⟩
end
end Wd
/-! A lambda handed to a def that calls it, and tells what error came. -/
namespace Wd
open PySem PySem.Spec L2
/-- c = None; try: a() / except T as n: c = n; return c -/
def TTref (K : PySem.W.Frag) (CW : Addr) : (XK → Hp → VK → Prop) → Hp → VK → Prop := fun tl H Q =>
  tl (fun cls d H' => PySem.W.exmOne K cls (.ref CW) = some true ∧ ∀ a, H' a = none → Q (.ref a) (upd H' a (exv a cls d))) H (fun _ H' => Q .non H')
section
variable {X : Cx}
theorem takes_len {W : WX} (tk : Takes X W) : Takes X (fun cls d σ H => σ.length = X.N.length → W cls d σ H) := fun u s' q => by
  obtain ⟨a, B, sI, pins, σ, H, cls, d, e, I, nb, up, sky, na, os, ag, w⟩ := q
  exact tk u s' ⟨a, B, sI, pins, σ, H, cls, d, e, I, nb, up, sky, na, os, ag, w I.len⟩
theorem ref_gives {Ng : List Str} {x a m n e q : Str} {sg : Scope} {g CW : Addr} {cdg : Value} {p1 p2 p3 p4 p5 p6 p7 p8 p9 p10 p11 p12 p13 p14 : Pos} {kk : Nat} (nd : Ng.Nodup) (ha : Ng[0]? = some a) (hm : Ng[1]? = some m) (hn : Ng[2]? = some n) (hlen : Ng.length = 3)
    (lm : sg.names.lookup m = some .local) (ln : sg.names.lookup n = some .local) (dm : (m == ("__debug__" : Str)) = false) (cm : (m == ("__classdict__" : Str)) = false) (dn : (n == ("__debug__" : Str)) = false) (cn : (n == ("__classdict__" : Str)) = false)
    (hge : sg.names.lookup e = some .globalImplicit) (hme : X.mg e = some (.ref CW)) (hde : (e == ("__debug__" : Str)) = false) :
    LamX.GivesTo X Ng x sg g cdg [.Assign [.Name m p1] (.Constant .none kk p2) p3, .Try [.Expr (.Call (.Name a p4) [] [] p5) p6] [.ExceptHandler (some (.Name e p7)) (some n) [.Assign [.Name m p8] (.Name n p9) p10] p11] [] [] p12, .Return (some (.Name m p13)) p14] a q (TTref X.K CW) := by
  intro f c' s H Q tl act hc h
  have h0 : L2.start Ng [V.ref f] = [some (.ref f), none, none] := by
    unfold L2.start
    simp [hlen]
  refine ⟨_, pss_cons (ps_set (i := 1) nd hm (Or.inl lm) pe_non) (pss_cons (ps_keep (X := (cxOf C8.CX0 X.prog X.w X.K X.mg X.base Ng x sg g cdg X.A X.stack s H C8.E0).nox) (c := .ref CW) (i := 2) (j := 1)
    (tb := fun W D σ H => ∃ Ech : XK, (∀ (cls : Value) (d : Option Addr) (σ' : St) (H' : Hp), Ech cls d H' → σ'.length = 3 → W cls d σ' H') ∧ σ[0]? = some (some (.ref f)) ∧ H c' = some (LamX.CodeO c' q) ∧ tl Ech H (fun _ H1 => D.nx σ H1))
    rfl rfl rfl nd hn hm ln (.inl lm) (.inr lm) (.inl ln) dn cn ⟨hge, hde, .inl hme⟩ LamX.takes0 rfl rfl rfl (fun W pn xe tk _ => ?_)) (pss_one (ps_ret (pe_var hm (.inl lm) dm cm)))), ?_⟩
  · refine pss_one ⟨fun pins s' σ H1 D I h' => ?_⟩
    obtain ⟨Ech, hW, h1, h2, h3⟩ := h'
    have hp := act (fun cls d σ H => σ.length = 3 → W cls d σ H) pn xe Ech p4 p5 (by have := takes_len tk; rw [show ((cxOf C8.CX0 X.prog X.w X.K X.mg X.base Ng x sg g cdg X.A X.stack s H C8.E0).nox.tr pn xe).N.length = 3 from hlen] at this; exact this) hW
    exact (ps_expr hp).run pins s' σ H1 D I ⟨h1, h2, h3⟩
  · refine ⟨fun cls d H' => PySem.W.exmOne X.K cls (.ref CW) = some true ∧ ∀ a, H' a = none → Q (.ref a) (upd H' a (exv a cls d)), fun cls d σ' H' z hl => ?_, by rw [h0]; rfl, hc, ?_⟩
    · match σ', hl with
      | [_, _, _], _ => exact ⟨true, z.1, fun _ a ha => ⟨.ref a, rfl, z.2 a ha⟩, fun w => nomatch w⟩
    · have e : (fun (_ : V) (H1 : Hp) => tRet (tVar 1) { nx := fun x H' => Q V.non H', rt := Q } ((L2.start Ng [V.ref f]).set 1 (some V.non)) H1) = fun _ H' => Q .non H' := by
        funext v H1
        rw [h0]
        refine propext ⟨fun ⟨w, e1, q⟩ => ?_, fun q => ⟨.non, rfl, q⟩⟩
        cases e1
        exact q
      show tl _ H (fun (_ : V) (H1 : Hp) => tRet (tVar 1) { nx := fun x H' => Q V.non H', rt := Q } ((L2.start Ng [V.ref f]).set 1 (some V.non)) H1)
      rw [e]
      exact h
end

section
variable [Tab] {W : WX} {K : PySem.W.Frag}
/-- f(lambda: ..), f telling what error came -/
def mRef (kn : Addr → Bool) (mb : M D) : M D := fun ε => match mb ε with
  | some (.ok _, e) => some (.ok .non, e)
  | some (.ex C d, e) => if kn C then some (.ok (.err C [("value", d)]), e) else none
  | none => none
theorem ex_ref {CW : Addr} {kn : Addr → Bool} {t : XK → TE} {mb : M D} (hT : ∀ C, kn C = true → PySem.W.exmOne K (.ref C) (.ref CW) = some true) (hb : ∀ E : XK, EX (fun c d _ H => E c d H) (t E) mb) :
    EX W (LamX.tLam Tab.T (TTref K CW) t) (mRef kn mb) := ⟨fun ε r e h => by
  have fwd : ∀ {B H H1 : Hp} {σ : L2.St}, Knw B H σ ε → LamX.ExtN H H1 → LamX.Tabs Tab.T H1 → Stp (Mu σ ε) B H B H1 ∧ Knw B H1 σ ε := fun {B H H1 σ} k eN T1 => by
    have sb : Sb B H1 := ⟨fun a o q => eN a o (k.sub a o q) fun ps z => k.sub.nt a ps (by rw [q, z]), T1, k.sub.nt⟩
    have st : ∀ S : Addr → Prop, Stp S B H B H1 := fun S => ⟨Same.refl _, sb, fun a o _ q n => eN a o q n, fun a o q n => ⟨o, eN a o q n, n⟩, fun a o q => .inl q⟩
    exact ⟨st _, k.step0 (st _)⟩
  unfold mRef at h
  split at h
  · rename_i d e1 q
    cases h
    obtain ⟨kp, _⟩ := (hb fun _ _ _ => True).run _ _ _ q
    refine ⟨kp, fun B H σ Q k g => ⟨k.sub.tab, fun H1 eN T1 => ?_⟩⟩
    obtain ⟨s1, k1⟩ := fwd k eN T1
    exact ((hb _).run _ _ _ q).2 B H1 σ _ k1 fun B2 H2 s2 k2 v i2 => g B2 H2 (s1.trans s2 fun a m => .inl m) k2 _ .non
  · rename_i C d e1 q
    split at h
    · rename_i hC
      cases h
      obtain ⟨kp, _⟩ := (hb fun _ _ _ => True).run _ _ _ q
      refine ⟨kp, fun B H σ Q k g => ⟨k.sub.tab, fun H1 eN T1 => ?_⟩⟩
      obtain ⟨s1, k1⟩ := fwd k eN T1
      refine ((hb _).run _ _ _ q).2 B H1 σ _ k1 fun dd B2 H2 s2 k2 f => ⟨hT C hC, fun a ha => ?_⟩
      obtain ⟨fs, f1, f2⟩ := f
      have s3 : Stp0 B2 H2 (upd B2 a (exv a (.ref C) (some dd))) (upd H2 a (exv a (.ref C) (some dd))) := .new k2.sub ha nt_exv
      exact g _ _ ((s1.trans s2 fun a m => .inl m).trans0 s3) (k2.step0 s3) _ (.err upd_same (s3.up _ _ f1) (f2.mono s3.up))
    · cases h
  · cases h⟩
end
end Wd
/-! What generated texts lean on. -/
namespace Wd
open PySem L2
/-- the text's own classes: known ones, known errors, addresses by name -/
structure Adr where
  kn : Addr → Bool
  ke : Addr → Bool
  a : String → Addr
section
variable {X : Cx} {K : PySem.W.Frag} {tg a b e l o : Expr} {ta te tl to : TE} {tA : TA} {p pos apos : Pos} {f : Str} {n : Nat}
section
variable [Tab]
theorem k_addU (hK : X.K = K) : OpR X (binaryOp .Add) (rAddU K) := hK ▸ op_addU
theorem k_mulV (hK : X.K = K) : OpR X (binaryOp .Mult) (rMulV K) := hK ▸ op_mulV
theorem k_ltU (hK : X.K = K) (hu : X.A.units < cLine) : OpR X (compareOp .Lt) (rLtU K) := hK ▸ op_ltU hu
theorem k_eqU (hK : X.K = K) (hu : X.A.units + 64 < cLine) : OpR X (compareOp .Eq) (rEqU K) := hK ▸ op_eqU hu
theorem k_neU (hK : X.K = K) (hu : X.A.units + 64 < cLine) : OpR X (compareOp .NotEq) (rNeU K) := hK ▸ op_neU hu
theorem k_inU (hK : X.K = K) (hu : X.A.units + 65 < cLine) : OpR X (compareOp .In) (rInU K) := hK ▸ op_inU hu
theorem k_isN : OpR X (compareOp .Is) rIsN := op_isN
theorem k_notN : OpR X (compareOp .IsNot) rNotN := op_notN
theorem k_slU (hK : X.K = K) : SlR X (rSlU K) := hK ▸ sl_U
theorem k_len (hK : X.K = K) : CallR X (.builtin "len") (rLen K) := hK ▸ call_lenK
theorem k_list (hK : X.K = K) : CallR X (.type "list") (rListOf K) := hK ▸ call_listK
theorem k_tuple (hK : X.K = K) : CallR X (.type "tuple") (rTupOf K) := hK ▸ call_tupK
end
theorem k_ix (hK : X.K = K) : IxR X (rIx K) := hK ▸ ix_seq
theorem k_all (hK : X.K = K) (hc : X.calm = true) : CallR X (.builtin "all") (rAll K) := hK ▸ cr_all hc
theorem k_any (hK : X.K = K) (hc : X.calm = true) : CallR X (.builtin "any") (rAny K) := hK ▸ cr_any hc
theorem k_repr (hK : X.K = K) (hg : X.A.guards = some []) (hr : Room n X.A) : CallR X (.builtin "repr") (rReprD K) := hK ▸ call_reprD hg hr
theorem k_fld (hK : X.K = K) (he : PE X e te) (hb : attributeBase e f X.env (eval e X.env) = eval e X.env) : PE X (.Attribute e f pos) (tFld K te f) := hK ▸ pe_fld he hb
theorem k_fldE (hK : X.K = K) (he : PE X e te) (hb : attributeBase e f X.env (eval e X.env) = eval e X.env) : PE X (.Attribute e f pos) (tFldE K te f) := hK ▸ pe_fldE he hb
theorem k_pil (hK : X.K = K) (hl : PE X l tl) : PI X tg l (iList K tl) := hK ▸ pi_list hl
theorem k_pit (hK : X.K = K) (hl : PE X l tl) : PI X tg l (iTup K tl) := hK ▸ pi_tup hl
theorem k_enum {tpos : Pos} {elts : List Expr} {kk : Nat} (hK : X.K = K) (hg : Gl X "enumerate") (hm : X.mg "enumerate" = none) (ha : PA X [e] tA) (hs : starEach [e] X.env = [(false, eval e X.env)] := by rfl) :
    PI X (.Tuple elts kk tpos) (.Call (.Name "enumerate" p) [e] [] pos) (iEnum K tA) := hK ▸ pi_enum hg hm ha hs
theorem k_join (hK : X.K = K) (ho : PE X o to) (he : PE X e te) (hs : starEach [e] X.env = [(false, eval e X.env)] := by rfl) (hbase : attributeBase o "join" X.env (eval o X.env) = eval o X.env := by rfl) (hline : (apos.endLine == pos.line) = true := by rfl) :
    PE X (.Call (.Attribute o "join" apos) [e] [] pos) (tM1 (rJoin K) to te) := hK ▸ pe_join ho he hs hbase hline
theorem k_gtup {es : List Expr} {k : Nat} {t : TGs} {n : Nat} (hK : X.K = K) (hc : X.calm = true) (h : PGs X es t) (h1 : (assignEach es X.env).length = n := by rfl) (h2 : (assignEach es X.env).findIdx? (·.1) = none := by rfl) :
    PG X (.Tuple es k pos) (gTup K n t) := by
  subst hK
  exact pg_tup hc h h1 h2
theorem k_psfld {value : Expr} {tv : TE} {pos' : Pos} (hK : X.K = K) (ha : PE X o ta) (hv : PE X value tv) (hs : swapsWith value (some (.Attribute o f pos')) pos.line X.env = pure false) : PS X (.Assign [.Attribute o f pos'] value pos) (sFld K ta tv f) := hK ▸ ps_fld ha hv hs
end
/-- a def as callers know it -/
structure Cal (P : Program) (w : World) (K : PySem.W.Frag) (mg : Str → Option Value) (base : Heap) (CX : CXT) (k : Nat) (x : Str) (f : Addr) (fd : FuncData) (ps : List Str) (sp : Sp) : Prop where
  ok : FnOk P w K mg base CX k f fd ps sp
  mgx : mg x = some (.ref f)
  kp : PySem.W.keepIn K (.ref f) = true
  bd : Binds K fd ps []
/-- a class -/
structure CalC (P : Program) (w : World) (K : PySem.W.Frag) (mg : Str → Option Value) (base : Heap) (CX : CXT) (k : Nat) (x : Str) (C f : Addr) (fd : FuncData) (ps : List Str) (ds : List Value) (sp : Sp) : Prop where
  mkk : Mk K C f
  ok : FnOk P w K mg base CX k f fd ps sp
  mgx : mg x = some (.ref C)
  bd : Binds K fd ps ds
/-- an error's class -/
structure CalE (P : Program) (w : World) (K : PySem.W.Frag) (mg : Str → Option Value) (base : Heap) (x : Str) (C f : Addr) (fd : FuncData) : Prop where
  er : ErrC K C f
  ok : FnOk P w K mg base CX0 1 f fd ["self", "value"] (spErr K)
  mgx : mg x = some (.ref C)
  bd : Binds K fd ["self", "value"] []
/-! ### fields, classes -/
def flK (A : Adr) (f : Str) : D → Option D
  | .obj C gs => if A.kn C then gs.lookup f else none
  | _ => none
theorem fields_of {K : PySem.W.Frag} {A : Adr} {f : Str} (hc : ∀ C, A.kn C = true → Cls K C ∧ NoAttr K C f) : Fields K f (flK A f) where
  ok := fun C gs z h => by
    simp only [flK] at h
    split at h
    · rename_i hk
      exact ⟨h, hc C hk⟩
    · cases h
  no := fun x h => by cases x <;> first | rfl | exact absurd rfl (h _ _)
def D.kInt : D → Bool
  | .int _ => true
  | .bl _ => true
  | _ => false
def D.kBool : D → Bool
  | .bl _ => true
  | _ => false
def D.kTup : D → Bool
  | .tup _ => true
  | _ => false
def D.kStr : D → Bool
  | .str _ => true
  | _ => false
def D.kNo : D → Bool := fun _ => false
def isTy (A : Adr) (p : D → Bool) : D → Option D := isiF (fun C => if A.kn C then some false else none) (fun _ => none) p
def isOw (A : Adr) (n : String) : D → Option D := isiF (fun C => if A.kn C then some (decide (C = A.a n)) else none) (fun _ => none) D.kNo
def isEr (A : Adr) (n : String) : D → Option D := isiF (fun _ => none) (fun C => if A.ke C then some (decide (C = A.a n) || n == "WireError") else none) D.kNo
theorem isi_ty {K : PySem.W.Frag} {A : Adr} {T : String} {p : D → Bool} (h1 : ∀ C, A.kn C = true → PySem.W.kitOne K (.ref C) (.type T) = some false ∧ ClsK K C) (h2 : ∀ x, (∀ C gs, x ≠ .obj C gs) → (∀ C gs, x ≠ .err C gs) → PySem.W.kitOne K x.ty (.type T) = some (p x)) :
    IsiOk K (.type T) (fun C => if A.kn C then some false else none) (fun _ => none) p where
  cls := fun C b h => by
    split at h
    · cases h; exact h1 C (by assumption)
    · cases h
  err := fun C b h => nomatch h
  prim := h2
theorem isi_ow {K : PySem.W.Frag} {A : Adr} {n : String} (h1 : ∀ C, A.kn C = true → PySem.W.kitOne K (.ref C) (.ref (A.a n)) = some (decide (C = A.a n)) ∧ ClsK K C) (h2 : ∀ T ∈ ["NoneType", "bool", "int", "str", "list", "tuple", "dict"], PySem.W.kitOne K (.type T) (.ref (A.a n)) = some false) :
    IsiOk K (.ref (A.a n)) (fun C => if A.kn C then some (decide (C = A.a n)) else none) (fun _ => none) D.kNo where
  cls := fun C b h => by
    split at h
    · cases h; exact h1 C (by assumption)
    · cases h
  err := fun C b h => nomatch h
  prim := fun x ho he => by cases x <;> first | exact h2 _ (by simp) | exact absurd rfl (ho _ _) | exact absurd rfl (he _ _)
theorem isi_er {K : PySem.W.Frag} {A : Adr} {n : String} (h1 : ∀ C, A.ke C = true → PySem.W.kitOne K (.ref C) (.ref (A.a n)) = some (decide (C = A.a n) || n == "WireError") ∧ ∃ fI, ErrC K C fI) (h2 : ∀ T ∈ ["NoneType", "bool", "int", "str", "list", "tuple", "dict"], PySem.W.kitOne K (.type T) (.ref (A.a n)) = some false) :
    IsiOk K (.ref (A.a n)) (fun _ => none) (fun C => if A.ke C then some (decide (C = A.a n) || n == "WireError") else none) D.kNo where
  cls := fun C b h => nomatch h
  err := fun C b h => by
    split at h
    · cases h; exact h1 C (by assumption)
    · cases h
  prim := fun x ho he => by cases x <;> first | exact h2 _ (by simp) | exact absurd rfl (ho _ _) | exact absurd rfl (he _ _)
section
variable [Tab] {W : WX} {tA : TA} {mA : M (List D)} {C : Addr} {m : List D → Option (Rs (List (Str × D)))}
theorem ex_make00 {XE : XK} (h : EA W tA mA) : EX W (tMake C (spW C m) [] XE tA) (mMake0 C m mA) := by
  have := ex_make0 (C := C) (m := m) (XE := XE) no_dvs h
  simpa only [List.append_nil] using this
theorem ex_makeX {XE : XK} (hW : ∀ c d σ H, W c d σ H → XE c d H) (h : EA W tA mA) : EX W (tMake C (spW C m) [] XE tA) (mMake C m mA) := by
  have := ex_make (C := C) (m := m) (XE := XE) hW no_dvs h
  simpa only [List.append_nil] using this
end
/-! ### own operators -/
structure CalO (P : Program) (w : World) (K : PySem.W.Frag) (mg : Str → Option Value) (base : Heap) (CX : CXT) (k : Nat) (C : Addr) (nm : Str) (f : Addr) (sp : Sp) : Prop where
  spc : Spc K C nm f
  rn : FnR P w K mg base CX k f sp
section
variable {X : Cx} {K : PySem.W.Frag} {n : Nat} {C g : Addr} {sp : Sp}
theorem k_inOwn (hK : X.K = K) (O : CalO X.prog X.w K X.mg X.base CX0 n C "__contains__" g sp) (hr : Room n X.A) : OpR X (compareOp .In) (rInOwn C sp E0) := by subst hK; exact op_inOwn O.spc O.rn hr pass0
theorem k_invOwn (hK : X.K = K) (O : CalO X.prog X.w K X.mg X.base CX0 n C "__invert__" g sp) (hr : Room n X.A) : UnR X (unaryOp .Invert) (rInvOwn C sp E0) := by subst hK; exact un_invOwn O.spc O.rn hr pass0
theorem k_lenOwn (hK : X.K = K) (O : CalO X.prog X.w K X.mg X.base CX0 n C "__len__" g sp) (hr : Room (n + 1) X.A) : CallR X (.builtin "len") (rLenOwn C sp E0) := by subst hK; exact call_lenOwn O.spc O.rn hr pass0
theorem k_eqOwn (hK : X.K = K) (O : CalO X.prog X.w K X.mg X.base CX0 n C "__eq__" g sp) (hr : Room n X.A) : OpR X (compareOp .Eq) (rEqOwn K C sp E0) := by subst hK; exact op_eqOwn O.spc O.rn hr pass0
end
/-- the arguments' number -/
theorem len_X [Tab] {k : Nat} {m : List D → Option (Rs D)} (hm : ∀ ds r, m ds = some r → ds.length = k) {vs : List V} {H : Hp} {Q : VK} {E : XK} (h : spX m vs H Q E) : vs.length = k := by
  obtain ⟨B, ds, r, _, i, e, _⟩ := h
  rw [i.length]
  exact hm ds r e
theorem len_Y [Tab] {k : Nat} {m : List D → List D → Option (D × List D)} (hm : ∀ ms ds r, m ms ds = some r → ds.length = k) {vs : List V} {H : Hp} {Q : VK} {E : XK} (h : spY m vs H Q E) : vs.length = k + 1 := by
  obtain ⟨B, p, ws, ms, vs', ds, d, ms', rfl, _, _, _, _, i, e, _⟩ := h
  rw [List.length_cons, i.length, hm ms ds _ e]
theorem len_Z [Tab] {k : Nat} {m : List D → Option (List D)} (hm : ∀ ds r, m ds = some r → ds.length = k) {vs : List V} {H : Hp} {Q : VK} {E : XK} (h : spZ m vs H Q E) : vs.length = k := by
  obtain ⟨B, ds, r, _, i, e, _⟩ := h
  rw [i.length]
  exact hm ds r e
theorem len_W [Tab] {k : Nat} {C : Addr} {m : List D → Option (Rs (List (Str × D)))} (hm : ∀ ds r, m ds = some r → ds.length = k) {vs : List V} {H : Hp} {Q : VK} {E : XK} (h : spW C m vs H Q E) : vs.length = k + 1 := by
  obtain ⟨B, x, dx, vs', ds, r, rfl, _, _, _, i, e, _⟩ := h
  rw [List.length_cons, i.length, hm ds _ e]
def arX {α : Type} (k : Nat) (m : List D → Option α) (ds : List D) : Option α := if ds.length = k then m ds else none
theorem arX_len {α : Type} {k : Nat} {m : List D → Option α} {ds : List D} {r : α} (h : arX k m ds = some r) : ds.length = k := by
  unfold arX at h
  split at h
  · assumption
  · cases h
def arY {α : Type} (k : Nat) (m : List D → List D → Option α) (ms ds : List D) : Option α := if ds.length = k then m ms ds else none
theorem arY_len {α : Type} {k : Nat} {m : List D → List D → Option α} {ms ds : List D} {r : α} (h : arY k m ms ds = some r) : ds.length = k := by
  unfold arY at h
  split at h
  · assumption
  · cases h
theorem arX_sp [Tab] {k : Nat} {m : List D → Option (Rs D)} {vs : List V} {H : Hp} {Q : VK} {E : XK} (h : spX (arX k m) vs H Q E) : spX m vs H Q E := by
  obtain ⟨B, ds, r, s, i, e, q⟩ := h
  refine ⟨B, ds, r, s, i, ?_, q⟩
  unfold arX at e
  split at e
  · exact e
  · cases e
theorem arY_sp [Tab] {k : Nat} {m : List D → List D → Option (D × List D)} {vs : List V} {H : Hp} {Q : VK} {E : XK} (h : spY (arY k m) vs H Q E) : spY m vs H Q E := by
  obtain ⟨B, p, ws, ms, vs', ds, d, ms', a, b, c, d', e', i, e, q⟩ := h
  refine ⟨B, p, ws, ms, vs', ds, d, ms', a, b, c, d', e', i, ?_, q⟩
  unfold arY at e
  split at e
  · exact e
  · cases e
theorem arZ_sp [Tab] {k : Nat} {m : List D → Option (List D)} {vs : List V} {H : Hp} {Q : VK} {E : XK} (h : spZ (arX k m) vs H Q E) : spZ m vs H Q E := by
  obtain ⟨B, ds, r, s, i, e, q⟩ := h
  refine ⟨B, ds, r, s, i, ?_, q⟩
  unfold arX at e
  split at e
  · exact e
  · cases e
theorem arW_sp [Tab] {k : Nat} {C : Addr} {m : List D → Option (Rs (List (Str × D)))} {vs : List V} {H : Hp} {Q : VK} {E : XK} (h : spW C (arX k m) vs H Q E) : spW C m vs H Q E := by
  obtain ⟨B, x, dx, vs', ds, r, a, b, c, d', i, e, q⟩ := h
  refine ⟨B, x, dx, vs', ds, r, a, b, c, d', i, ?_, q⟩
  unfold arX at e
  split at e
  · exact e
  · cases e
end Wd
/-! Comprehensions of two clauses. -/
namespace Wd
open PySem L2
theorem wipe_sub {σ : L2.St} {vs vs1 : List Nat} (h : ∀ i ∈ vs1, i ∈ vs) : wipe (wipe σ vs1) vs = wipe σ vs := by
  apply List.ext_getElem?
  intro j
  by_cases hj : j ∈ vs
  · have h1 : ∀ τ : L2.St, (wipe τ vs)[j]? = if j < τ.length then some none else none := fun τ => by
      by_cases hl : j < τ.length
      · rw [if_pos hl]
        have hl' : j < (wipe τ vs).length := by rw [wipe_length]; exact hl
        rw [List.getElem?_eq_getElem hl']
        cases q : (wipe τ vs)[j] with
        | none => rfl
        | some v => exact absurd (by rw [List.getElem?_eq_getElem hl', q]) (wipe_in (σ := τ) hj v)
      · rw [if_neg hl]
        exact List.getElem?_eq_none (by rw [wipe_length]; omega)
    rw [h1, h1, wipe_length]
  · rw [wipe_out hj, wipe_out hj, wipe_out fun z => hj (h j z)]
section
variable [Tab] {W : WX} {te : TE} {me : M D} {vs vs1 : List Nat}
theorem et_yes {W : WX} : ET W tYes mYes := ⟨fun ε r e h => by
  cases h
  exact ⟨.refl _, fun B H σ Q k g => g B H (.refl k.sub) k⟩⟩
/-- what all turns keep -/
theorem lcGo_keeps {W0 : WX} {g : TG} {tt : TT} {gv : D → Sl → Option Sl} {mt : M Bool} (hg : EG g vs gv) (ht : ET W0 tt mt) (he : EX W0 te me) : ∀ (ds : List D) (a : Sl) (l : List D) (b : Sl), lcGo gv mt me vs ds a = some (l, b) → (∀ (j : Nat) (u : Slo), j ∈ vs → a[j]? = some u → u = .no) →
    Keeps a b ∧ ∀ (j : Nat) (u : Slo), j ∈ vs → b[j]? = some u → u = .no := by
  intro ds
  induction ds with
  | nil => intro a l b h hn; cases h; exact ⟨.refl _, hn⟩
  | cons d r ih =>
    intro a l b h hn
    unfold lcGo at h
    cases hg1 : gv d a with
    | none => rw [hg1] at h; cases h
    | some ε2 =>
      rw [hg1] at h
      dsimp only at h
      have kg := (hg d a ε2 hg1).1
      split at h
      · rename_i ε3 ht1
        have kt := (ht.run _ _ _ ht1).1
        split at h
        · rename_i y ε4 hm1
          have km := (he.run _ _ _ hm1).1
          cases hr : lcGo gv mt me vs r (wipeE ε4 vs) with
          | none => rw [hr] at h; cases h
          | some q =>
            rw [hr] at h
            cases h
            obtain ⟨k1, k2⟩ := ih _ _ _ hr fun j u hj => wipeE_in hj
            exact ⟨((((kg.trans kt).trans km).trans .wipe).trans k1), k2⟩
        · cases h
      · rename_i ε3 ht1
        have kt := (ht.run _ _ _ ht1).1
        obtain ⟨k1, k2⟩ := ih _ _ _ h fun j u hj => wipeE_in hj
        exact ⟨((kg.trans kt).trans .wipe).trans k1, k2⟩
      · cases h
/-- [elt for g in it for g1 in it1 if t1]: the outer items -/
def lc2Go (gv : D → Sl → Option Sl) (mi1 : M (List D)) (gv1 : D → Sl → Option Sl) (mt1 : M Bool) (me : M D) (vs vs1 : List Nat) : List D → Sl → Option (List D × Sl)
  | [], ε => some ([], ε)
  | d :: r, ε => match gv d ε with
    | none => none
    | some ε2 => match mi1 ε2 with
      | some (.ok es, ε3) => (match lcGo gv1 mt1 me vs1 es (wipeE ε3 vs1) with
        | some (ys, ε4) => (lc2Go gv mi1 gv1 mt1 me vs vs1 r (wipeE ε4 vs)).map fun p => (ys ++ p.1, p.2)
        | none => none)
      | _ => none
def mLc2 (mi : M (List D)) (gv : D → Sl → Option Sl) (mi1 : M (List D)) (gv1 : D → Sl → Option Sl) (mt1 : M Bool) (me : M D) (vs vs1 : List Nat) : M D := bnd mi fun ds => fun ε => match lc2Go gv mi1 gv1 mt1 me vs vs1 ds (wipeE ε vs) with
  | some (l, e) => if l.length ≤ 100000 then some (.ok (.lst l), e) else none
  | none => none
theorem lc2Go_keeps {W0 : WX} {wi1 : TI} {g g1 : TG} {tt1 : TT} {mi1 : M (List D)} {gv gv1 : D → Sl → Option Sl} {mt1 : M Bool} (hg : EG g vs gv) (hi1 : EI W0 wi1 mi1) (hg1 : EG g1 vs1 gv1) (ht : ET W0 tt1 mt1) (he : EX W0 te me) : ∀ (ds : List D) (a : Sl) (l : List D) (b : Sl), lc2Go gv mi1 gv1 mt1 me vs vs1 ds a = some (l, b) → (∀ (j : Nat) (u : Slo), j ∈ vs → a[j]? = some u → u = .no) →
    Keeps a b ∧ ∀ (j : Nat) (u : Slo), j ∈ vs → b[j]? = some u → u = .no := by
  intro ds
  induction ds with
  | nil => intro a l b h hn; cases h; exact ⟨.refl _, hn⟩
  | cons d r ih =>
    intro a l b h hn
    unfold lc2Go at h
    cases q1 : gv d a with
    | none => rw [q1] at h; cases h
    | some ε2 =>
      rw [q1] at h
      dsimp only at h
      have kg := (hg d a ε2 q1).1
      split at h
      · rename_i es ε3 q2
        have ki := (hi1.run _ _ _ q2).1
        split at h
        · rename_i ys ε4 q3
          have k4 := (lcGo_keeps hg1 ht he _ _ _ _ q3 fun j u hj => wipeE_in hj).1
          cases hr : lc2Go gv mi1 gv1 mt1 me vs vs1 r (wipeE ε4 vs) with
          | none => rw [hr] at h; cases h
          | some q =>
            rw [hr] at h
            cases h
            obtain ⟨k1, k2⟩ := ih _ _ _ hr fun j u hj => wipeE_in hj
            exact ⟨((((kg.trans ki).trans .wipe).trans k4).trans .wipe).trans k1, k2⟩
        · cases h
      · cases h
theorem ex_lc2 {wi wi1 : TI} {g g1 : TG} {tt1 : TT} {W0 : WX} {mi mi1 : M (List D)} {gv gv1 : D → Sl → Option Sl} {mt1 : M Bool} (hv : ∀ i ∈ vs1, i ∈ vs) (hi : EI W wi mi) (hg : EG g vs gv) (hi1 : EI W0 wi1 mi1) (hg1 : EG g1 vs1 gv1) (ht : ET W0 tt1 mt1) (he : EX W0 te me) :
    EX W (tLc2 wi g tYes wi1 g1 tt1 te vs vs1) (mLc2 mi gv mi1 gv1 mt1 me vs vs1) := ⟨fun ε r e h => by
  rcases bnd_inv h with ⟨C, d, e1, rfl⟩ | ⟨ds, e1, h1, h2⟩
  · obtain ⟨kp, run⟩ := hi.run _ _ _ e1
    exact ⟨kp, fun B H σ Q k g => run B H σ _ k g⟩
  · obtain ⟨kp, run⟩ := hi.run _ _ _ h1
    cases hL : lc2Go gv mi1 gv1 mt1 me vs vs1 ds (wipeE e1 vs) with
    | none => rw [hL] at h2; cases h2
    | some p =>
      obtain ⟨L, e'⟩ := p
      rw [hL] at h2
      have h3 : (if L.length ≤ 100000 then some (Rs.ok (D.lst L), e') else none) = some (r, e) := h2
      split at h3
      · rename_i hlen
        cases h3
        have k0 := lc2Go_keeps hg hi1 hg1 ht he ds _ _ _ hL fun j u hj => wipeE_in hj
        refine ⟨kp.trans (Keeps.wipe.trans k0.1), fun B H σ Q k q => ?_⟩
        refine run B H σ _ k fun J B1 H1 G Y s1 k1 w hG hY => ?_
        intro P hP
        have toBase : ∀ {τ : L2.St} {a : Sl}, Keeps e1 a → (∀ (j : Nat) v, τ[j]? = some (some v) → (∃ u : Slo, a[j]? = some u ∧ u.mut = true) → σ[j]? = some (some v)) → ∀ x, Mu τ a x → Mu σ e1 x := fun {τ a} ka hτ x m => by
          obtain ⟨j, u, q1, q2, q3⟩ := m
          obtain ⟨u0, r1, r2⟩ := ka.muts j u q1 q2
          exact ⟨j, u0, r1, r2, hτ j _ q3 ⟨u, q1, q2⟩⟩
        have b0 : ∀ {a : Sl}, Keeps e1 a → ∀ x, Mu (L2.wipe σ vs) a x → Mu σ e1 x := fun {a} ka x m => by
          obtain ⟨j, u, q1, q2, q3⟩ := ka.mu m
          exact ⟨j, u, q1, q2, (wipe_some q3).1⟩
        have noP : ∀ {τ : L2.St} {a : Sl}, (∀ x, Mu τ a x → Mu σ e1 x) → ¬ Mu τ a P := fun hb m => (k1.mut_free (hb P m)).2 hP
        refine ⟨fun i m H2 => m = ds.length - i ∧ i ≤ ds.length ∧ ∃ B2 acc a O rest, lc2Go gv mi1 gv1 mt1 me vs vs1 (ds.drop i) a = some (rest, e) ∧ O ++ rest = L ∧ Keeps e1 a ∧ Knw B2 H2 (L2.wipe σ vs) a ∧ Stp (Mu σ e1) B1 H1 B2 H2 ∧ B2 P = none ∧ H2 P = some (.lst acc) ∧ IsA B2 acc O,
          ⟨ds.length, by simp, Nat.zero_le _, B1, [], wipeE e1 vs, [], L, hL, rfl, .wipe, ?_, .apart k1.sub hP, free_of k1.sub hP, upd_same, .nil⟩, ?_⟩
        · exact k1.wipe.out (free_of k1.sub hP) (noP (b0 .wipe)) (k1.sub.tab.new hP)
        rintro i m H2 ⟨rfl, hin, B2, acc, a, O, rest, go, hO, ka, k2, s2, p2, a2, i2⟩
        have g2 : G H2 := hG H2 fun b o z => k2.sub b o (s2.up b o z)
        by_cases hlt : i < ds.length
        · have hd : ds[i]? = some ds[i] := List.getElem?_eq_getElem hlt
          have ed : ds.drop i = ds[i] :: ds.drop (i + 1) := List.drop_eq_getElem_cons hlt
          rw [ed] at go
          unfold lc2Go at go
          cases q1 : gv ds[i] a with
          | none => rw [q1] at go; cases go
          | some ε2 =>
            rw [q1] at go
            dsimp only at go
            obtain ⟨kg, _, gg⟩ := hg ds[i] a ε2 q1
            split at go
            · rename_i es ε3 q2
              obtain ⟨ki, ri⟩ := hi1.run _ _ _ q2
              split at go
              · rename_i ys ε4 q3
                have k4k := lcGo_keeps hg1 ht he _ _ _ _ q3 fun j u hj => wipeE_in hj
                cases hr : lc2Go gv mi1 gv1 mt1 me vs vs1 (ds.drop (i + 1)) (wipeE ε4 vs) with
                | none => rw [hr] at go; cases go
                | some qq =>
                  obtain ⟨rest', e''⟩ := qq
                  rw [hr] at go
                  cases go
                  have kw : Keeps e1 (wipeE ε4 vs) := ((((ka.trans kg).trans ki).trans .wipe).trans k4k.1).trans .wipe
                  refine .inr ⟨w.goes i H2 hlt g2, fun H' => ∃ B2 acc, Knw B2 H' (L2.wipe σ vs) (wipeE ε4 vs) ∧ Stp (Mu σ e1) B1 H1 B2 H' ∧ B2 P = none ∧ H' P = some (.lst acc) ∧ IsA B2 acc (O ++ ys),
                    fun H' h => ?_, fun v H3 yv => ?_⟩
                  · obtain ⟨B3, acc3, x1, x2, x3, x4, x5⟩ := h
                    exact ⟨ds.length - (i + 1), by omega, rfl, hlt, B3, acc3, _, O ++ ys, rest', hr, by rw [List.append_assoc]; exact hO, kw, x1, x2, x3, x4, x5⟩
                  · obtain ⟨B3, s3, x3⟩ := hY i B2 H2 v H3 ds[i] hd s2.up k2.sub (w.yields i H2 v H3 hlt g2 yv)
                    have k3 := k2.step0 s3
                    have p3 : B3 P = none := s3.none p2 a2 tf_lst id
                    have a3 := s3.fr P _ id a2 tf_lst
                    have s3' := s2.trans0 s3
                    refine gg B3 H3 _ v _ k3 x3 fun σ2 kx hw hm => ⟨hw.trans wipe_idem, ?_⟩
                    have m2 : ∀ b, Mu σ2 ε2 b → Mu σ e1 b := fun b m => b0 ka b (hm b m)
                    show wi1 σ2 H3 _
                    refine ri B3 H3 σ2 _ kx fun J1 B4 H4 G1 Y1 s4 k4 w1 hG1 hY1 => ?_
                    have p4 := s4.none p3 a3 tf_lst (noP m2)
                    have a4 := s4.fr P _ (noP m2) a3 tf_lst
                    have s4' := s3'.trans s4 fun b m => .inl (m2 b m)
                    have i4 : IsA B4 acc O := i2.mono (s3.up.trans s4.up)
                    have m3 : ∀ {b : Sl}, Keeps ε3 b → ∀ x, Mu (L2.wipe σ2 vs1) b x → Mu σ e1 x := fun {b} kb x m => by
                      obtain ⟨j, u, r1, r2, r3⟩ := kb.mu m
                      exact m2 x (ki.mu ⟨j, u, r1, r2, (wipe_some r3).1⟩)
                    refine ⟨fun j m H5 => m = es.length - j ∧ j ≤ es.length ∧ ∃ B5 acc a5 O1 rest1, lcGo gv1 mt1 me vs1 (es.drop j) a5 = some (rest1, ε4) ∧ O1 ++ rest1 = ys ∧ Keeps ε3 a5 ∧ Knw B5 H5 (L2.wipe σ2 vs1) a5 ∧ Same B4 B5 ∧ Stp (Mu σ e1) B1 H1 B5 H5 ∧ B5 P = none ∧ H5 P = some (.lst acc) ∧ IsA B5 acc (O ++ O1),
                      ⟨es.length, by simp, Nat.zero_le _, B4, acc, wipeE ε3 vs1, [], ys, q3, rfl, .wipe, k4.wipe, Same.refl _, s4', p4, a4, by rw [List.append_nil]; exact i4⟩, ?_⟩
                    rintro j m H5 ⟨rfl, hjn, B5, acc5, a5, O1, rest1, go1, hO1, ka5, k5, u5, s5, p5, h5, i5⟩
                    have g5 : G1 H5 := hG1 H5 fun b o z => k5.sub b o (u5 b o z)
                    by_cases hjlt : j < es.length
                    · have hd1 : es[j]? = some es[j] := List.getElem?_eq_getElem hjlt
                      have ed1 : es.drop j = es[j] :: es.drop (j + 1) := List.drop_eq_getElem_cons hjlt
                      rw [ed1] at go1
                      unfold lcGo at go1
                      refine .inr ⟨w1.goes j H5 hjlt g5, fun H' => ∃ B5 acc a5 O1 rest1, lcGo gv1 mt1 me vs1 (es.drop (j + 1)) a5 = some (rest1, ε4) ∧ O1 ++ rest1 = ys ∧ Keeps ε3 a5 ∧ Knw B5 H' (L2.wipe σ2 vs1) a5 ∧ Same B4 B5 ∧ Stp (Mu σ e1) B1 H1 B5 H' ∧ B5 P = none ∧ H' P = some (.lst acc) ∧ IsA B5 acc (O ++ O1),
                        fun H' h => ⟨es.length - (j + 1), by omega, rfl, hjlt, h⟩, fun v1 H6 yv1 => ?_⟩
                      obtain ⟨B6, s6, x6⟩ := hY1 j B5 H5 v1 H6 es[j] hd1 u5 k5.sub (w1.yields j H5 v1 H6 hjlt g5 yv1)
                      have k6 := k5.step0 s6
                      have p6 : B6 P = none := s6.none p5 h5 tf_lst id
                      have h6 := s6.fr P _ id h5 tf_lst
                      have s6' := s5.trans0 s6
                      cases q4 : gv1 es[j] a5 with
                      | none => rw [q4] at go1; cases go1
                      | some η2 =>
                        rw [q4] at go1
                        dsimp only at go1
                        obtain ⟨kg1, _, gg1⟩ := hg1 es[j] a5 η2 q4
                        refine gg1 B6 H6 _ v1 _ k6 x6 fun σ3 ky hw1 hm1 => ⟨hw1.trans wipe_idem, ?_⟩
                        have m5 : ∀ b, Mu σ3 η2 b → Mu σ e1 b := fun b m => m3 ka5 b (hm1 b m)
                        have np5 : ¬ Mu σ3 η2 P := noP m5
                        split at go1
                        · rename_i η3 t1
                          obtain ⟨kt, rt⟩ := ht.run _ _ _ t1
                          refine rt B6 H6 σ3 _ ky fun B7 H7 s7 k7 => ?_
                          have p7 := s7.none p6 h6 tf_lst np5
                          have h7 := s7.fr P _ np5 h6 tf_lst
                          have s7' := s6'.trans s7 fun b m => .inl (m5 b m)
                          split at go1
                          · rename_i y η4 e4
                            obtain ⟨km, rm⟩ := he.run _ _ _ e4
                            cases hr1 : lcGo gv1 mt1 me vs1 (es.drop (j + 1)) (wipeE η4 vs1) with
                            | none => rw [hr1] at go1; cases go1
                            | some qq =>
                              obtain ⟨rest1', e5⟩ := qq
                              rw [hr1] at go1
                              cases go1
                              show te σ3 H7 _
                              have m6 : ∀ b, Mu σ3 η3 b → Mu σ e1 b := fun b m => m5 b (kt.mu m)
                              have np6 : ¬ Mu σ3 η3 P := noP m6
                              refine rm B7 H7 σ3 _ k7 fun B8 H8 s8 k8 yv y8 => ?_
                              have p8 := s8.none p7 h7 tf_lst np6
                              have h8 := s8.fr P _ np6 h7 tf_lst
                              have s8' := s7'.trans s8 fun b m => .inl (m6 b m)
                              have i8 : IsA B8 acc5 (O ++ O1) := i5.mono ((s6.up.trans s7.up).trans s8.up)
                              have hsz : acc5.length ≤ 100000 := by
                                rw [i8.length]
                                have : (O ++ ((O1 ++ y :: rest1') ++ rest')).length ≤ 100000 := by rw [hO1, hO]; exact hlen
                                simp only [List.length_append, List.length_cons] at this ⊢
                                omega
                              have kw1 : Keeps ε3 (wipeE η4 vs1) := (((ka5.trans kg1).trans kt).trans km).trans .wipe
                              refine ⟨acc5, h8, Nat.lt_of_le_of_lt hsz (by decide), B8, acc5 ++ [yv], wipeE η4 vs1, O1 ++ [y], rest1', hr1, by rw [List.append_assoc]; exact hO1, kw1, ?_, u5.trans ((s6.up.trans s7.up).trans s8.up), ?_, p8, upd_same, by rw [← List.append_assoc]; exact i8.append (.one y8)⟩
                              · have k9 := k8.wipe (vs := vs1)
                                rw [hw1, wipe_idem] at k9
                                exact k9.out p8 (noP (m3 kw1)) (k8.sub.tab.write h8 nt_lst)
                              · refine ⟨s8'.up, ⟨fun b u qq => ?_, k8.sub.tab.write h8 nt_lst, k8.sub.nt⟩, fun b u hn qq nt => ?_, fun b u qq nt => ?_, s8'.nw⟩
                                · rw [upd_ne (ne_of_none qq p8)]; exact s8'.inn b u qq
                                · rw [upd_ne (ne_of_none qq hP)]; exact s8'.fr b u hn qq nt
                                · by_cases hb : b = P
                                  · subst hb; exact ⟨_, upd_same, tf_lst⟩
                                  · rw [upd_ne hb]; exact s8'.kp b u qq nt
                          · cases go1
                        · rename_i η3 t1
                          obtain ⟨kt, rt⟩ := ht.run _ _ _ t1
                          refine rt B6 H6 σ3 _ ky fun B7 H7 s7 k7 => ?_
                          have p7 := s7.none p6 h6 tf_lst np5
                          have h7 := s7.fr P _ np5 h6 tf_lst
                          have s7' := s6'.trans s7 fun b m => .inl (m5 b m)
                          show ∃ B5 acc, _
                          refine ⟨B7, acc5, wipeE η3 vs1, O1, rest1, go1, hO1, ((ka5.trans kg1).trans kt).trans .wipe, ?_, u5.trans (s6.up.trans s7.up), s7', p7, h7, i5.mono (s6.up.trans s7.up)⟩
                          have k9 := k7.wipe (vs := vs1)
                          rw [hw1, wipe_idem] at k9
                          exact k9
                        · cases go1
                    · have ej : j = es.length := by omega
                      subst ej
                      rw [List.drop_length] at go1
                      cases go1
                      rw [List.append_nil] at hO1
                      subst hO1
                      refine .inl ⟨w1.stops H5 g5, B5, acc5, ?_, s5, p5, h5, i5⟩
                      have k9 := k5.wipe (vs := vs)
                      rw [wipe_sub hv, hw, wipe_idem] at k9
                      exact k9
              · cases go
            · cases go
        · have ei : i = ds.length := by omega
          subst ei
          rw [List.drop_length] at go
          cases go
          rw [List.append_nil] at hO
          subst hO
          have k3 := (k2.seal p2 a2 (noP (b0 ka))).unwipe k0.2
          have s3 := s2.seal hP p2 a2
          exact .inl ⟨w.stops H2 g2, q _ H2 (s1.trans s3 fun b m => .inl (kp.mu m)) k3 _ (.lst upd_same (i2.mono fun b u z => by rw [upd_ne (ne_of_none z p2)]; exact z))⟩
      · cases h3⟩
end
end Wd
/-! Defs that are run where no repr is under way; the law's own call, with tables of code objects. -/
namespace Wd
open PySem PySem.Spec PyProof.Rows L2
section
variable {P : Program} {w : World} {K : PySem.W.Frag} {mg : Str → Option Value} {base : Heap} {k : Nat} {f : Addr} {fd : FuncData} {ps : List Str} {sp : Sp}
structure FnG (P : Program) (w : World) (K : PySem.W.Frag) (mg : Str → Option Value) (base : Heap) (k : Nat) (f : Addr) (fd : FuncData) (ps : List Str) (sp : Sp) : Prop where
  len : ∀ vs H Q E, sp vs H Q E → vs.length = ps.length
  run : ∀ (A : Around) (outer : List Env) (s : Shared) (H : Hp) (args : Args) (us : List Value) (vs : List V) (Q : VK) (E : XK), A.guards = some [] → Room k A → Env0 P w K mg base A outer s H →
    BindsTo s fd args (ps.zip us) → Vals vs us → sp vs H Q E → codeAny (model P w) A (.call (.ref f) args) (CR CX0 outer P w H s Q E) s
/-- a def by its body, which may lean on the guards -/
theorem fnG_lk {x qual : Str} {st : Stmt} {Nm : List Str} {oc kV doc pm cdv ct : Value} {od an : Option Addr} {osl : Array (Option Value)}
    (look : K.lookup f = some ⟨oc, od, .func (PySem.W.fnOf x qual (defArgs st) (defBody st) (defScope st) .none kV doc pm an cdv ct), osl⟩) (code : PySem.W.codeIn K cdv qual = true) (S : FnScope Nm ps (defScope st)) (len : ∀ vs H Q E, sp vs H Q E → vs.length = ps.length)
    (body : ∀ (A : Around) (outer : List Env) (s : Shared) (H : Hp) (vs : List V) (Q : VK) (E : XK), A.guards = some [] → Room k (A.deeper (envOfC qual (defScope st) s.heap.objs.size f cdv)) → sp vs H Q E →
      ∃ t, PSs (cxOf CX0 P w K mg base Nm qual (defScope st) f cdv A outer s H E).nox (defBody st) t ∧ t { nx := fun _ H' => Q .non H', rt := Q } (L2.start Nm vs) H) :
    FnG P w K mg base (k + 1) f (PySem.W.fnOf x qual (defArgs st) (defBody st) (defScope st) .none kV doc pm an cdv ct) ps sp := by
  constructor
  · exact len
  intro A outer s H args us vs Q E gd room e0 bind rel prom
  have size := len vs H Q E prom
  have whole : K.In s.heap := e0.mod.kin.keeps fun a o e => (e0.bs a o e).1
  have nolim : s.heap.NoLimit := e0.mod.nolimit.keeps fun a o e => (e0.bs a o e).1
  have kinds : ∀ y ∈ ps.zip us, (defScope st).names.lookup y.1 = some .local ∨ ((defScope st).names.lookup y.1 = some .cell ∧ ((cellsFrom (s.heap.objs.size + 1) (defScope st).names []).lookup y.1).isSome = true) := by
    rintro ⟨n, v⟩ hy
    cases S.par n (List.of_mem_zip hy).1 with
    | inl q => exact Or.inl q
    | inr q => exact Or.inr ⟨q, PySem.W.cellsFrom_some _ _ _ (Or.inl q)⟩
  apply codeAny_call_function room.depth (whole _ _ look) rfl S.co S.gen rfl (PySem.W.codeRec_of whole code) (bind _ _ _ _ ?_)
  apply wpAny_newFunctionEnv_cells S.kind kinds
  intro env he s1 x
  subst he
  constructor
  · exact nolim.keeps x.toInCall.keep
  apply codeAny_func
  obtain ⟨t, ht, hq⟩ := body A outer s H vs Q E gd (room.deeper _) prom
  have inv0 : Inv (cxOf CX0 P w K mg base Nm qual (defScope st) f cdv A outer s H E) [] (L2.start Nm vs) H s1 := inv_start S room.hd e0 size rel x
  apply wpAny_mono (ht.nox.run [] s1 (L2.start Nm vs) H _ inv0 hq)
  · intro fl s' hs
    cases fl with
    | ret u =>
      obtain ⟨v, σ', H', J, rv, q⟩ := hs
      exact ⟨v, H', J.os, J.bare, J.base, J.hok, rv, q⟩
    | next =>
      obtain ⟨σ', H', J, q⟩ := hs
      exact ⟨V.non, H', J.os, J.bare, J.base, J.hok, rfl, q⟩
    | brk => exact hs.elim fun _ z => z.elim fun _ z => z.2.elim
    | cont => exact hs.elim fun _ z => z.elim fun _ z => z.2.elim
  · exact fun e s' hs => hs
theorem fnG_of {x qual : Str} {st : Stmt} {Nm : List Str} (F : Fun K x qual st f fd) (S : FnScope Nm ps (defScope st)) (len : ∀ vs H Q E, sp vs H Q E → vs.length = ps.length)
    (body : ∀ (cdv : Value) (A : Around) (outer : List Env) (s : Shared) (H : Hp) (vs : List V) (Q : VK) (E : XK), A.guards = some [] → Room k (A.deeper (envOfC qual (defScope st) s.heap.objs.size f cdv)) → sp vs H Q E →
      ∃ t, PSs (cxOf CX0 P w K mg base Nm qual (defScope st) f cdv A outer s H E).nox (defBody st) t ∧ t { nx := fun _ H' => Q .non H', rt := Q } (L2.start Nm vs) H) : FnG P w K mg base (k + 1) f fd ps sp := by
  obtain ⟨oc, od, kV, doc, pm, an, cdv, ct, osl, rfl, look, code⟩ := F.ex
  exact fnG_lk look code S len (body cdv)
section
variable {X : Cx} {x : Str} {p pos : Pos} {e : Expr} {es : List Expr} {t : TA} {E : XK}
theorem pe_callG (gd : X.A.guards = some []) (F : FnG X.prog X.w X.K X.mg X.base k f fd ps sp) (room : Room k X.A) (hg : Gl X x) (hm : X.mg x = some (.ref f)) (hk : PySem.W.keepIn X.K (.ref f) = true) (hb : Binds X.K fd ps [])
    (ha : PA X (e :: es) t) (hdb : (x == ("__debug__" : Str)) = false := by decide) (he : starEach (e :: es) X.env = (false, eval e X.env) :: starEach es X.env := by rfl) (hpl : (backTo pos (starEach es X.env)).any (·.1) = false := by rfl) :
    PE X (.Call (.Name x p) (e :: es) [] pos) (tCall sp [] E t) := by
  constructor
  intro pins s σ H Q I h
  apply wpAny_Call_Name_kw
  apply ld_glob I hg hm (hd := hdb)
  apply PySem.W.callWith_K (h₀ := X.base) I.ok.mod.kin hk _ he hpl
  apply thn (ha.run pos pins s σ H _ I h)
  rintro us s1 ⟨vs, H1, I1, r, q⟩
  constructor
  · exact I1.kIn
  have r0 : Vals (vs ++ []) (us ++ []) := r.append .nil
  have size : (us ++ []).length = ps.length := by rw [← r0.length]; exact F.len _ _ _ _ q
  apply wpAny_call
  apply codeAny_mono (F.run X.A X.stack s1 H1 ⟨us, []⟩ (us ++ []) (vs ++ []) Q E gd room I1.env0 (hb s1 us I1.kIn size) r0 q)
  intro r s' hq
  cases r with
  | error e => exact hq.elim
  | ok fl =>
    cases fl with
    | ret u => exact I1.after hq
    | next => exact hq.elim
    | brk => exact hq.elim
    | cont => exact hq.elim
end
/-- a def that knows of no guards, among those that do -/
theorem FnOk.toG {F : FnOk P w K mg base CX0 k f fd ps sp} : FnG P w K mg base k f fd ps sp := ⟨F.len, fun A outer s H args us vs Q E _ r e0 b rel h => F.run A outer s H args us vs Q E r e0 b rel h⟩

/-- the law's own call, from the top; cs: code objects and their tables -/
theorem law_callGT {mb : Str → Option Value} {fa a : Addr} {cs : List (Addr × Addr)} {x : Str} {s₁ : Shared} {vs : List Value} {ns : List Int}
    (KX : K.In s₁.heap) (hns : s₁.heap.Ns mainGlobals mg) (hb : s₁.heap.Ns builtinsNs mb) (hbb : ∀ x : Str, x ≠ "__name__" → mb x = bootBuiltins x) (hlim : s₁.heap.NoLimit) (hg : s₁.gens = #[])
    (tabs : ∀ p ∈ cs, s₁.heap.get? p.2 = some { cls := .none, data := .fields #[] }) (apart : ∀ p ∈ cs, K.lookup p.2 = none) (codes : ∀ p ∈ cs, PySem.W.CodeHd s₁.heap p.1 p.2)
    (mods : ∃ (bm : Addr) (ob : Obj), mg "__builtins__" = some (.ref bm) ∧ bm ≠ builtinsNs ∧ s₁.heap.get? bm = some ob ∧ ob.cls = .type "module" ∧ ob.dict = some builtinsNs ∧ ob.data = .plain)
    (ha : s₁.heap.get? a = some { cls := .type "list", data := .seq vs.toArray }) (hi : IntsAre vs ns) (hl : ns.length ≤ sizeLine) (hr : Room k callerA) (noK : K.lookup a = none)
    (F : ∀ base : Heap, K.In base → base.Ns mainGlobals mg → (∀ p ∈ cs, LamX.TabB base mg p.1 p.2) → FnG P w K mg base k fa fd [x] sp) (hbind : ∀ (s : Shared) (u : Value), BindsTo s fd ⟨[u], []⟩ [(x, u)])
    (hsp : ∀ H : Hp, (∀ p ∈ cs, H p.2 = some (.tbl #[])) → (∀ b o, H b = some o → (b = a ∧ ∃ ob, o = .frz ob (.lst (ns.map V.int))) ∨ ∃ ps, o = .tbl ps) → (∃ ob, H a = some (.frz ob (.lst (ns.map V.int)))) → sp [.ref a] H (fun v _ => v = .bl true) fun _ _ _ => False) :
    codeAny (model P w) callerA (.call (.ref fa) ⟨[.ref a], []⟩) (fun r s' => r = .ok (.ret (.bool true)) ∧ OldK s₁.heap s'.heap ∧ s'.os = s₁.os ∧ AllBare s'.gens) s₁ := by
  have vl := hi.length
  have vr := vals_ints hi
  have nota : a ∉ cs.map (·.2) := fun z => by
    obtain ⟨p, hp, e⟩ := List.mem_map.mp z
    have q := tabs p hp
    rw [e, ha] at q
    have q2 := congrArg Obj.data (Option.some.inj q)
    cases q2
  let T : Hp := fun c => if c = a then some (.frz { cls := .type "list", data := .seq vs.toArray } (.lst (ns.map V.int))) else if c ∈ cs.map (·.2) then some (.tbl #[]) else none
  have Ta : T a = some (.frz { cls := .type "list", data := .seq vs.toArray } (.lst (ns.map V.int))) := if_pos rfl
  have Tt : ∀ p ∈ cs, T p.2 = some (.tbl #[]) := fun p hp => by
    have m : p.2 ∈ cs.map (·.2) := List.mem_map.mpr ⟨p, hp, rfl⟩
    have n : p.2 ≠ a := fun z => nota (z ▸ m)
    show (if p.2 = a then _ else if p.2 ∈ cs.map (·.2) then _ else _) = _
    rw [if_neg n, if_pos m]
  have Tx : ∀ c o, T c = some o → (c = a ∧ o = .frz { cls := .type "list", data := .seq vs.toArray } (.lst (ns.map V.int))) ∨ (c ∈ cs.map (·.2) ∧ o = .tbl #[]) := fun c o q => by
    by_cases h1 : c = a
    · subst h1
      rw [Ta] at q
      cases q
      exact .inl ⟨rfl, rfl⟩
    · have q' : (if c ∈ cs.map (·.2) then some (HO.tbl #[]) else none) = some o := by
        have := q
        show _ = _
        rw [← this]
        exact (if_neg h1).symm
      by_cases h2 : c ∈ cs.map (·.2)
      · rw [if_pos h2] at q'
        cases q'
        exact .inr ⟨h2, rfl⟩
      · rw [if_neg h2] at q'
        cases q'
  have isT : ∀ b : Addr, b ∈ cs.map (·.2) → s₁.heap.get? b = some { cls := .none, data := .fields #[] } := fun b z => by
    obtain ⟨p, hp, e⟩ := List.mem_map.mp z
    rw [← e]
    exact tabs p hp
  have held : HOk P w T s₁.heap := fun c o q => by
    rcases Tx c o q with ⟨rfl, rfl⟩ | ⟨hm, rfl⟩
    · exact ⟨ha, by rw [List.length_map]; exact hl, vs, _, vr, ha⟩
    · exact isT c hm
  -- what is a record with something in it, or no record and no list, is not tracked
  have off : ∀ {c : Addr} {o : Obj}, s₁.heap.get? c = some o → (∀ us n, o.data ≠ .seq us n) → o.data ≠ .fields #[] → T c = none := by
    intro c o e n1 n2
    cases z : T c with
    | none => rfl
    | some u =>
      rcases Tx c u z with ⟨rfl, _⟩ | ⟨hm, _⟩
      · rw [ha] at e
        cases e
        exact absurd rfl (n1 _ _)
      · rw [isT c hm] at e
        cases e
        exact absurd rfl n2
  have names : ∀ {c : Addr} {m : Str → Option Value}, s₁.heap.Ns c m → (hidT s₁.heap T).Ns c m := by
    rintro c m ⟨o, es, ep, h1, h2, h3⟩
    refine ⟨o, es, ep, hidT_get h1 (off h1 (fun us n z => ?_) fun z => ?_), h2, h3⟩ <;> (rw [h2] at z; cases z)
  have part : K.In (hidT s₁.heap T) := by
    intro c o h1
    refine hidT_get (KX c o h1) ?_
    cases z : T c with
    | none => rfl
    | some u =>
      rcases Tx c u z with ⟨rfl, _⟩ | ⟨hm, _⟩
      · rw [noK] at h1; cases h1
      · obtain ⟨p, hp, e⟩ := List.mem_map.mp hm
        rw [← e, apart p hp] at h1
        cases h1
  have modOk : Mod K mg (hidT s₁.heap T) := by
    obtain ⟨mc, l1, l2⟩ := hlim
    exact ⟨part, names hns, ⟨mb, names hb, hbb⟩, ⟨mc, names l1, l2⟩⟩
  have TB : ∀ p ∈ cs, LamX.TabB (hidT s₁.heap T) mg p.1 p.2 := fun p hp => by
    refine ⟨?_, ?_, fun z => ?_⟩
    · obtain ⟨o, us, file, tf, flags, tg, inF, text, tt, e1, r1, r2, r3, rest⟩ := codes p hp
      refine ⟨o, us, file, tf, flags, tg, inF, text, tt, hidT_get e1 (off e1 (fun vs n z => ?_) fun z => ?_), r1, r2, r3, rest⟩
      · rw [r2] at z; cases z
      · rw [r2] at z
        cases z
        simp at r3
    · obtain ⟨bm, ob, b1, b2, b3, b4, b5, b6⟩ := mods
      refine ⟨bm, ob, b1, b2, fun q => ?_, fun q => ?_, hidT_get b3 (off b3 (fun vs n z => ?_) fun z => ?_), b4, b5, b6⟩
      · obtain ⟨o, es, ep, e, hd, _⟩ := hns
        rw [q, e] at b3
        cases b3
        rw [hd] at b6
        cases b6
      · rw [q, tabs p hp] at b3
        cases b3
        cases b6
      · rw [b6] at z; cases z
      · rw [b6] at z; cases z
    · obtain ⟨o, es, ep, e, hd, _⟩ := hns
      rw [z, tabs p hp] at e
      cases e
      cases hd
  have env0 : Env0 P w K mg (hidT s₁.heap T) callerA [] s₁ T :=
    ⟨rfl, modOk, fun c o h1 => of_hidT h1, Nat.le_of_eq (hidT_size _ _), trivial, (fun c hc => (by cases hc)), held, .of_eq hg⟩
  have good : sp [.ref a] T (fun v _ => v = .bl true) fun _ _ _ => False := hsp T Tt (fun b o q => (Tx b o q).imp (fun z => ⟨z.1, _, z.2⟩) fun z => ⟨_, z.2⟩) ⟨_, Ta⟩
  apply codeAny_mono ((F _ part (names hns) TB).run callerA [] s₁ T ⟨[.ref a], []⟩ [.ref a] [.ref a] _ _ rfl hr env0 (hbind s₁ (.ref a)) (.cons rfl .nil) good)
  intro r s' out
  cases r with
  | error e => exact out.elim
  | ok fl =>
    cases fl with
    | next => exact out.elim
    | brk => exact out.elim
    | cont => exact out.elim
    | ret u =>
      obtain ⟨v, T', osE, bareE, unE, heldE, relE, isE⟩ := out
      have isTr : v = .bl true := isE
      rw [isTr] at relE
      have uT : u = Value.bool true := relE
      rw [uT]
      have same : ∀ c o, c ∉ cs.map (·.2) → s₁.heap.get? c = some o → s'.heap.get? c = some o := by
        intro c o nc h1
        cases z : T c with
        | none => exact unE.keep c o h1 z (fun y => by cases y) (by simp)
        | some y =>
          rcases Tx c y z with ⟨rfl, rfl⟩ | ⟨hm, _⟩
          · have t1 := (held c _ z).1
            have t2 := (heldE c _ (unE.frzs c _ _ z)).1
            rw [h1] at t1
            cases t1
            exact t2
          · exact absurd hm nc
      have grown : ∀ p ∈ cs, ∃ more : Array Value, s'.heap.get? p.2 = some { cls := .none, data := .fields more } := fun p hp => by
        obtain ⟨more, z⟩ := unE.tbls p.2 #[] (Tt p hp)
        exact ⟨_, heldE p.2 _ z⟩
      refine ⟨rfl, ⟨fun c o e => ?_, fun c o e => ?_⟩, osE, bareE⟩
      · by_cases hc : c ∈ cs.map (·.2)
        · obtain ⟨p, hp, ep⟩ := List.mem_map.mp hc
          obtain ⟨more, hm⟩ := grown p hp
          rw [← ep] at e ⊢
          rw [tabs p hp] at e
          cases e
          exact .inr (.inl ⟨((codes p hp).tab (tabs p hp)).isCodeTable, rfl, #[], more, rfl, by rw [Array.empty_append]; exact hm⟩)
        · exact .inl (same c o hc e)
      · by_cases hc : c ∈ cs.map (·.2)
        · obtain ⟨p, hp, ep⟩ := List.mem_map.mp hc
          obtain ⟨more, hm⟩ := grown p hp
          rw [← ep]
          exact ⟨_, hm⟩
        · exact ⟨o, same c o hc e⟩
/-- what is to be shown of the law's def at the head's heap -/
def LawG (l : PySem.W.OpenLaw) (w : World) (K : PySem.W.Frag) (k n : Nat) (x : Str) (mg : Str → Option Value) (fa : Addr) (h : Heap) : Prop :=
  ∃ (fd : FuncData) (cs : List (Addr × Addr)) (sp : Sp), (∀ p ∈ cs, h.get? p.2 = some { cls := .none, data := .fields #[] }) ∧ (∀ p ∈ cs, K.lookup p.2 = none) ∧ (∀ p ∈ cs, PySem.W.CodeHd h p.1 p.2) ∧ (∀ (s : Shared) (u : Value), BindsTo s fd ⟨[u], []⟩ [(x, u)]) ∧
    (∀ (H : Hp) (a : Addr) (ns : List Int), ns.length ≤ n → (∀ p ∈ cs, H p.2 = some (.tbl #[])) → (∀ b o, H b = some o → (b = a ∧ ∃ ob, o = .frz ob (.lst (ns.map V.int))) ∨ ∃ ps, o = .tbl ps) → (∃ ob, H a = some (.frz ob (.lst (ns.map V.int)))) → sp [.ref a] H (fun v _ => v = .bl true) fun _ _ _ => False) ∧
    ∀ base : Heap, K.In base → base.Ns mainGlobals mg → (∀ p ∈ cs, LamX.TabB base mg p.1 p.2) → FnG l.prog w K mg base k fa fd [x] sp
theorem walk_GT {l : PySem.W.OpenLaw} {n k : Nat} {q : Program} {loose : List Str} {XP : (Str → Option Value) → Heap → Prop} {YP : World → Heap → Prop} {d : DefRec} {K : Params → PySem.W.Frag} {x : Str}
    (most : l.most = some n) (small : n ≤ sizeLine) (nodef : d.params.defaults = []) (room : Room k callerA) (inn : ∀ (w : World) (h : Heap), YP w h → (K w.params).In h) (bare : ∀ (w : World) (a : Addr) (o : Obj), (K w.params).lookup a = some o → o.cls ≠ .type "list")
    (F : ∀ (w : World) (mg : Str → Option Value) (fa : Addr) (h : Heap), YP w h → (K w.params).In h → h.Ns mainGlobals mg → mg d.name = some (.ref fa) → LawG l w (K w.params) k n x mg fa h) :
    PySem.W.WalkO q loose XP YP l.row.toRowW d [] (fun f vs => PySem.call f vs) := by
  apply Att.attach_call most nodef
  intro w s₀ s₁ mg mb fa o pm cd doc a vs ns G Y ho hd hcd hmg hobj hints hlen hg
  have whole := inn w _ Y
  obtain ⟨fd, cs, sp, t1, t2, t3, bind, prom, good⟩ := F w mg fa _ Y whole G.T.g hmg
  have noK : (K w.params).lookup a = none := by
    cases e : (K w.params).lookup a with
    | none => rfl
    | some o =>
      have h1 := whole a o e
      rw [hobj] at h1
      cases h1
      exact absurd rfl (bare w a _ e)
  exact law_callGT whole G.T.g G.T.b G.T.builtins G.T.nolimit hg t1 t2 t3 G.T.bmain hobj hints (Nat.le_trans hlen small) room noK good bind fun H y z u => prom H a ns hlen y z u
end
end Wd
/-! repr of any data, dicts among them. -/
namespace Wd
open PySem PySem.Spec L2
/-! ### what is read, a dict's place being another than that of the modules -/
mutual
inductive RG (h : Heap) : Value → PyData → Prop
  | non : RG h .none .none
  | bl (b : Bool) : RG h (.bool b) (.bool b)
  | int (i : Int) (t : Tok) : RG h (.int i t) (.int i)
  | str (x : Str) (t : Tok) : RG h (.str x t) (.str x)
  | lst {a : Addr} {o : Obj} {vs : Array Value} {n : Nat} {xs : List PyData} (e : h.get? a = some o) (c : o.cls = .type "list") (q : o.data = .seq vs n) (r : RGs h vs.toList xs) : RG h (.ref a) (.list xs)
  | tup {a : Addr} {o : Obj} {vs : Array Value} {n : Nat} {xs : List PyData} (e : h.get? a = some o) (c : o.cls = .type "tuple") (q : o.data = .seq vs n) (r : RGs h vs.toList xs) : RG h (.ref a) (.tuple xs)
  | dic {a : Addr} {o : Obj} {es : Array DictEntry} {n : Nat} {kvs : List (PyData × PyData)} (e : h.get? a = some o) (c : o.cls = .type "dict") (q : o.data = .dict es n) (z : (a == sysModules) = false)
      (r1 : RGs h (es.toList.map (·.key)) (kvs.map (·.1))) (r2 : RGs h (es.toList.map (·.val)) (kvs.map (·.2))) : RG h (.ref a) (.dict kvs)
inductive RGs (h : Heap) : List Value → List PyData → Prop
  | nil : RGs h [] []
  | cons {v : Value} {vs : List Value} {d : PyData} {ds : List PyData} (x : RG h v d) (r : RGs h vs ds) : RGs h (v :: vs) (d :: ds)
end
section
variable {h : Heap}
mutual
theorem RG.reads : ∀ {v : Value} {d : PyData}, RG h v d → ∃ as, Reads h v d as
  | _, _, .non => ⟨_, .none⟩
  | _, _, .bl b => ⟨_, .bool b⟩
  | _, _, .int i t => ⟨_, .int i t⟩
  | _, _, .str x t => ⟨_, .str x t⟩
  | _, _, .lst e c q r => let ⟨_, z⟩ := RGs.reads r; ⟨_, .list e c q z⟩
  | _, _, .tup e c q r => let ⟨_, z⟩ := RGs.reads r; ⟨_, .tuple e c q z⟩
  | _, _, .dic e c q _ r1 r2 => let ⟨_, z1⟩ := RGs.reads r1; let ⟨_, z2⟩ := RGs.reads r2; ⟨_, .dict e c q z1 z2⟩
theorem RGs.reads : ∀ {vs : List Value} {ds : List PyData}, RGs h vs ds → ∃ as, ReadsAll h vs ds as
  | _, _, .nil => ⟨_, .nil⟩
  | _, _, .cons x r => let ⟨_, z1⟩ := RG.reads x; let ⟨_, z2⟩ := RGs.reads r; ⟨_, .cons z1 z2⟩
end
/-- none of them lies deeper -/
theorem RG.apart {a : Addr} {d : PyData} (r : RG h (.ref a) d) {n : Nat} {bs : List Addr} (hd : n < d.depth) (hb : ReadAtMost h n bs) : a ∉ bs :=
  let ⟨_, z⟩ := r.reads
  not_mem_of_deeper z hd hb
theorem RG.most {a : Addr} {d : PyData} (r : RG h (.ref a) d) {n : Nat} {bs : List Addr} (hd : n ≤ d.depth) (hb : ReadAtMost h n bs) : ReadAtMost h d.depth (a :: bs) :=
  let ⟨_, z⟩ := r.reads
  .cons z hd hb
end
section
variable {prog : Program} {w : World} {h : Heap}
/-- what repr needs to know of some -/
def Shw (prog : Program) (w : World) (h : Heap) (vs : List Value) (ds : List PyData) : Prop :=
  ∃ bs, ReadAtMost h (PyData.depthAll ds) bs ∧ ReprAllK prog w bs h (PyData.depthAll ds) vs (PyData.shownAll ds)
theorem lst_K {a : Addr} {o : Obj} {vs : Array Value} {n : Nat} {xs : List PyData} (e : h.get? a = some o) (c : o.cls = .type "list") (q : o.data = .seq vs n) (r : RG h (.ref a) (.list xs)) (k : Shw prog w h vs.toList xs) :
    ∃ bs, ReadAtMost h (PyData.list xs).depth bs ∧ ReprK prog w bs h (PyData.list xs).depth (.ref a) (PyData.list xs).shown := by
  obtain ⟨bs, most, kk⟩ := k
  have up : PyData.depthAll xs < (PyData.list xs).depth := by simp only [PyData.depth]; omega
  refine ⟨a :: bs, r.most (Nat.le_of_lt up) most, ?_⟩
  have away := r.apart up most
  rw [PyData.depth, PyData.shown]
  rcases vs with ⟨_ | ⟨x, l⟩⟩
  · cases xs with
    | nil => rw [PyData.shownAll, listText_nil]; exact .listEmpty e c q
    | cons => rw [PyData.shownAll] at kk; cases kk
  · exact .list e c q away (by rw [kk.length_eq]; rfl) fun i y z => kk.item i y (by simpa using z)
theorem tup_K {a : Addr} {o : Obj} {vs : Array Value} {n : Nat} {xs : List PyData} (e : h.get? a = some o) (c : o.cls = .type "tuple") (q : o.data = .seq vs n) (r : RG h (.ref a) (.tuple xs)) (k : Shw prog w h vs.toList xs) :
    ∃ bs, ReadAtMost h (PyData.tuple xs).depth bs ∧ ReprK prog w bs h (PyData.tuple xs).depth (.ref a) (PyData.tuple xs).shown := by
  obtain ⟨bs, most, kk⟩ := k
  have up : PyData.depthAll xs < (PyData.tuple xs).depth := by simp only [PyData.depth]; omega
  refine ⟨a :: bs, r.most (Nat.le_of_lt up) most, ?_⟩
  have away := r.apart up most
  rw [PyData.depth, PyData.shown]
  exact .tuple e c q away kk
/-- the pairs of a dict -/
theorem dic_E {es : List DictEntry} {kvs : List (PyData × PyData)} (k1 : Shw prog w h (es.map (·.key)) (kvs.map (·.1))) (k2 : Shw prog w h (es.map (·.val)) (kvs.map (·.2))) :
    ∃ bs, ReadAtMost h (PyData.depthKv kvs) bs ∧ ReprEntriesK prog w bs h (PyData.depthKv kvs) es (PyData.shownKv kvs) := by
  obtain ⟨b1, m1, q1⟩ := k1
  obtain ⟨b2, m2, q2⟩ := k2
  have d1 := PyData.depthAll_keys_le kvs
  have d2 := PyData.depthAll_vals_le kvs
  refine ⟨b1 ++ b2, (m1.mono d1).append (m2.mono d2), ?_⟩
  rw [PyData.shownKv_eq]
  exact .of_two es _ _ (q1.more_le (fun b z => List.mem_append.mpr (.inl z)) d1) (q2.more_le (fun b z => List.mem_append.mpr (.inr z)) d2)
theorem dic_K {a : Addr} {o : Obj} {es : Array DictEntry} {n : Nat} {kvs : List (PyData × PyData)} (e : h.get? a = some o) (c : o.cls = .type "dict") (q : o.data = .dict es n) (z : (a == sysModules) = false) (r : RG h (.ref a) (.dict kvs))
    (k1 : Shw prog w h (es.toList.map (·.key)) (kvs.map (·.1))) (k2 : Shw prog w h (es.toList.map (·.val)) (kvs.map (·.2))) :
    ∃ bs, ReadAtMost h (PyData.dict kvs).depth bs ∧ ReprK prog w bs h (PyData.dict kvs).depth (.ref a) (PyData.dict kvs).shown := by
  obtain ⟨bs, most, kk⟩ := dic_E k1 k2
  have up : PyData.depthKv kvs < (PyData.dict kvs).depth := by simp only [PyData.depth]; omega
  refine ⟨a :: bs, r.most (Nat.le_of_lt up) most, ?_⟩
  have away := r.apart up most
  rw [PyData.depth, PyData.shown]
  exact .dict e c q z away kk
mutual
theorem RG.K : ∀ {v : Value} {d : PyData}, RG h v d → d.showable = true → d.shown.length ≤ sizeLine → ∃ bs, ReadAtMost h d.depth bs ∧ ReprK prog w bs h d.depth v d.shown
  | _, _, .non, _, _ => ⟨[], (fun _ z => nomatch z), by rw [PyData.shown]; exact .of_is .none _ _ _⟩
  | _, _, .bl b, _, _ => ⟨[], (fun _ z => nomatch z), by rw [PyData.shown]; exact .of_is (.bool b) _ _ _⟩
  | _, _, .int i t, hs, _ => ⟨[], (fun _ z => nomatch z), by rw [PyData.shown]; rw [PyData.showable, decide_eq_true_eq] at hs; exact .of_is (.int t hs) _ _ _⟩
  | _, _, .str x t, _, hz => ⟨[], (fun _ z => nomatch z), by rw [PyData.shown] at hz ⊢; exact .of_is (.str x t hz) _ _ _⟩
  | _, _, .lst e c q r, hs, hz => lst_K e c q (.lst e c q r) (RGs.K r (by rw [PyData.showable] at hs; exact hs) fun t m => by rw [PyData.shown] at hz; exact Nat.le_trans (listText_mem_le m) hz)
  | _, _, .tup e c q r, hs, hz => tup_K e c q (.tup e c q r) (RGs.K r (by rw [PyData.showable] at hs; exact hs) fun t m => by rw [PyData.shown] at hz; exact Nat.le_trans (tupleText_mem_le m) hz)
  | _, _, .dic e c q z r1 r2, hs, hz => by
    rw [PyData.shown] at hz
    rw [PyData.showable] at hs
    have hh := PyData.showableKv_split _ hs
    refine dic_K e c q z (.dic e c q z r1 r2) (RGs.K r1 hh.1 fun t m => ?_) (RGs.K r2 hh.2 fun t m => ?_)
    · obtain ⟨p, u1, u2⟩ := PyData.shownKv_key_le _ t m
      exact Nat.le_trans u2 (Nat.le_trans (dictText_mem_le u1) hz)
    · obtain ⟨p, u1, u2⟩ := PyData.shownKv_val_le _ t m
      exact Nat.le_trans u2 (Nat.le_trans (dictText_mem_le u1) hz)
theorem RGs.K : ∀ {vs : List Value} {ds : List PyData}, RGs h vs ds → PyData.showableAll ds = true → (∀ t ∈ PyData.shownAll ds, t.length ≤ sizeLine) → Shw prog w h vs ds
  | _, _, .nil, _, _ => ⟨[], (fun _ z => nomatch z), by rw [PyData.shownAll]; exact .nil⟩
  | _, _, .cons (d := d) (ds := ds) x r, hs, hz => by
    rw [PyData.showableAll, Bool.and_eq_true] at hs
    rw [PyData.shownAll] at hz
    obtain ⟨b1, m1, k1⟩ := RG.K x hs.1 (hz _ (List.mem_cons_self ..))
    obtain ⟨b2, m2, k2⟩ := RGs.K r hs.2 fun t m => hz t (List.mem_cons_of_mem _ m)
    have e1 : d.depth ≤ PyData.depthAll (d :: ds) := by rw [PyData.depthAll]; exact Nat.le_max_left ..
    have e2 : PyData.depthAll ds ≤ PyData.depthAll (d :: ds) := by rw [PyData.depthAll]; exact Nat.le_max_right ..
    refine ⟨b1 ++ b2, (m1.mono e1).append (m2.mono e2), ?_⟩
    rw [PyData.shownAll]
    exact .cons ((k1.more fun b z => List.mem_append.mpr (.inl z)).level_le e1) (k2.more_le (fun b z => List.mem_append.mpr (.inr z)) e2)
end
/-- the built-in itself -/
theorem RG.call {A : Around} {E : Value → Shared → Prop} {s : Shared} {Q : Value → Shared → Prop} {v : Value} {d : PyData} (r : RG s.heap v d) (hs : d.showable = true) (hz : d.shown.length ≤ sizeLine) (hg : A.guards = some []) (hu : A.units + (d.depth + 1) < cLine)
    (hQ : ∀ h' u tk, (∀ b o, s.heap.get? b = some o → h'.get? b = some o) → Q (.str d.shown u) { s with heap := h', toks := tk }) : wpAny (model prog w) A (call (.builtin "repr") [v]) Q E s := by
  have keep : ∀ b o, s.heap.get? b = some o → s.heap.get? b = some o := fun _ _ e => e
  have fin : ∀ h' u tk, (∀ b o, s.heap.get? b = some o → h'.get? b = some o) → (fun (r : Value) (s₁ : Shared) => ∃ x t, r = .str x t ∧ Q r s₁) (.str d.shown u) { s with heap := h', toks := tk } := fun h' u tk z => ⟨_, _, rfl, hQ h' u tk z⟩
  have clear : ∀ (bs : List Addr) (b : Addr), b ∈ bs → Clear [] b := fun _ b _ => Clear.nil b
  cases r with
  | non => rw [PyData.shown] at hQ; exact P.repr_of_none (hQ s.heap _ _ keep)
  | bl b => rw [PyData.shown] at hQ; exact P.repr_of_bool (hQ s.heap _ _ keep)
  | int i t => rw [PyData.shown] at hQ; rw [PyData.showable, decide_eq_true_eq] at hs; exact P.repr_of_int hs (hQ s.heap _ _ keep)
  | str x t => rw [PyData.shown] at hQ hz; exact P.repr_of_str (hQ s.heap _ _ keep) hz
  | lst e c q r =>
    rename_i a o vs n xs
    have r0 : RG s.heap (.ref a) (.list xs) := .lst e c q r
    obtain ⟨bs, most, kk⟩ := RGs.K (prog := prog) (w := w) r (by rw [PyData.showable] at hs; exact hs) fun t m => by rw [PyData.shown] at hz; exact Nat.le_trans (listText_mem_le m) hz
    have away := r0.apart (by simp only [PyData.depth]; omega) most
    rw [PyData.depth] at hu
    rw [PyData.shown] at fin hz
    refine call_repr_slot (by omega) ⟨o, e, c⟩ F.slot_list_repr.toG ?_
    rcases vs with ⟨_ | ⟨x, l⟩⟩
    · cases xs with
      | nil => rw [PyData.shownAll, listText_nil] at fin; exact call_list_repr_empty ⟨o, e, c⟩ e q (fin s.heap _ _ keep)
      | cons => rw [PyData.shownAll] at kk; cases kk
    · exact call_list_reprK e c q away (by rw [kk.length_eq]; rfl) (fun i y z => kk.item i y (by simpa using z)) hg (clear _) (by show A.units + 1 + (PyData.depthAll xs + 1) < cLine; omega) keep fin hz
  | tup e c q r =>
    rename_i a o vs n xs
    have r0 : RG s.heap (.ref a) (.tuple xs) := .tup e c q r
    obtain ⟨bs, most, kk⟩ := RGs.K (prog := prog) (w := w) r (by rw [PyData.showable] at hs; exact hs) fun t m => by rw [PyData.shown] at hz; exact Nat.le_trans (tupleText_mem_le m) hz
    have away := r0.apart (by simp only [PyData.depth]; omega) most
    rw [PyData.depth] at hu
    rw [PyData.shown] at fin hz
    exact call_repr_slot (by omega) ⟨o, e, c⟩ F.slot_tuple_repr (call_tuple_reprK e c q away kk hg (clear _) (by show A.units + 1 + (PyData.depthAll xs + 1) < cLine; omega) keep fin hz)
  | dic e c q z r1 r2 =>
    rename_i a o es n kvs
    have r0 : RG s.heap (.ref a) (.dict kvs) := .dic e c q z r1 r2
    have hz' := hz
    rw [PyData.shown] at fin hz
    rw [PyData.showable] at hs
    have hh := PyData.showableKv_split _ hs
    obtain ⟨bs, most, kk⟩ := dic_E (prog := prog) (w := w) (RGs.K r1 hh.1 fun t m => let ⟨p, u1, u2⟩ := PyData.shownKv_key_le _ t m; Nat.le_trans u2 (Nat.le_trans (dictText_mem_le u1) hz)) (RGs.K r2 hh.2 fun t m => let ⟨p, u1, u2⟩ := PyData.shownKv_val_le _ t m; Nat.le_trans u2 (Nat.le_trans (dictText_mem_le u1) hz))
    have away := r0.apart (by simp only [PyData.depth]; omega) most
    rw [PyData.depth] at hu
    exact call_repr_slot (by omega) ⟨o, e, c⟩ F.slot_dict_repr (call_dict_reprK e c q z away kk hg (clear _) (by show A.units + 1 + (PyData.depthKv kvs + 1) < cLine; omega) keep fin hz)
end
/-! ### data -/
def kP : Key → PyData
  | .inl i => .int i
  | .inr x => .str x
mutual
def D.rp : D → PyData
  | .non => .none
  | .bl b => .bool b
  | .int i => .int i
  | .str x => .str x
  | .lst ds => .list (D.rpA ds)
  | .tup ds => .tuple (D.rpA ds)
  | .dic es => .dict (D.rpK es)
  | .scr _ => .none
  | .obj _ _ => .none
  | .err _ _ => .none
def D.rpA : List D → List PyData
  | [] => []
  | d :: ds => d.rp :: D.rpA ds
def D.rpK : List (Key × D) → List (PyData × PyData)
  | [] => []
  | (k, d) :: es => (kP k, d.rp) :: D.rpK es
end
mutual
/-- none of the program's objects is in it -/
def D.pur : D → Bool
  | .lst ds => D.purA ds
  | .tup ds => D.purA ds
  | .dic es => D.purK es
  | .scr _ => false
  | .obj _ _ => false
  | .err _ _ => false
  | _ => true
def D.purA : List D → Bool
  | [] => true
  | d :: ds => d.pur && D.purA ds
def D.purK : List (Key × D) → Bool
  | [] => true
  | (_, d) :: es => d.pur && D.purK es
end
section
variable {X : Cx} {pins : List (Addr × Obj)} {σ : St} {B H : Hp} {s : Shared}
theorem rg_key {k : Key} {v : Value} (h : keyIs k v = true) : RG s.heap v (kP k) := by
  rcases keyIs_shape h with ⟨i, t, rfl, rfl⟩ | ⟨x, t, rfl, rfl⟩
  · exact .int i t
  · exact .str x t
mutual
theorem Is.rg (I : Inv X pins σ H s) (sm : Same B H) : ∀ {v : V} {d : D} {u : Value}, Is B v d → d.pur = true → RelV v u → RG s.heap u d.rp
  | _, _, _, .non, _, r => by cases r; rw [D.rp]; exact .non
  | _, _, _, .bl b, _, r => by cases r; rw [D.rp]; exact .bl b
  | _, _, _, .int i, _, r => by obtain ⟨t, rfl⟩ := r; rw [D.rp]; exact .int i t
  | _, _, _, .str x, _, r => by obtain ⟨t, rfl⟩ := r; rw [D.rp]; exact .str x t
  | _, _, _, .lst e q, p, r => by
    cases r
    rw [D.pur] at p
    obtain ⟨its, rv, ⟨o, n, ho, hc, _, hd⟩, _⟩ := I.list (.of (sm _ _ e))
    rw [D.rp]
    exact .lst ho hc hd (IsA.rg I sm q p rv)
  | _, _, _, .tup e q, p, r => by
    cases r
    rw [D.pur] at p
    obtain ⟨its, rv, ⟨o, ho, hc, n, hd⟩, _⟩ := I.tuple (.of (sm _ _ e))
    rw [D.rp]
    exact .tup ho hc hd (IsA.rg I sm q p rv)
  | _, _, _, .dic e q, p, r => by
    cases r
    rw [D.pur] at p
    obtain ⟨_, hd, vs, rv, o, es, ep, ho, hx, he, _, hp, _⟩ := dk_of I.hok (sm _ _ e)
    rw [D.rp]
    obtain ⟨z1, z2⟩ := IsK.rg I sm q p rv hp
    exact .dic ho hx.1 he hd z1 z2
  | _, _, _, .scr _ _, p, _ => by rw [D.pur] at p; cases p
  | _, _, _, .obj _ _, p, _ => by rw [D.pur] at p; cases p
  | _, _, _, .err _ _ _, p, _ => by rw [D.pur] at p; cases p
theorem IsA.rg (I : Inv X pins σ H s) (sm : Same B H) : ∀ {vs : List V} {ds : List D} {us : List Value}, IsA B vs ds → D.purA ds = true → Vals vs us → RGs s.heap us (D.rpA ds)
  | _, _, _, .nil, _, r => by cases r; rw [D.rpA]; exact .nil
  | _, _, _, .cons h q, p, r => by
    cases r with
    | cons r1 r2 =>
      rw [D.purA, Bool.and_eq_true] at p
      rw [D.rpA]
      exact .cons (Is.rg I sm h p.1 r1) (IsA.rg I sm q p.2 r2)
theorem IsK.rg (I : Inv X pins σ H s) (sm : Same B H) : ∀ {kvs : List (Key × V)} {es : List (Key × D)} {vs : List (Key × Value)} {ds : List DictEntry}, IsK B kvs es → D.purK es = true → KV kvs vs → Pairs (mixKind X.prog X.w) ds vs →
    RGs s.heap (ds.map (·.key)) ((D.rpK es).map (·.1)) ∧ RGs s.heap (ds.map (·.val)) ((D.rpK es).map (·.2))
  | _, _, _, _, .nil, _, r, g => by
    cases r
    cases g
    rw [D.rpK]
    exact ⟨.nil, .nil⟩
  | _, _, _, _, .cons h q, p, r, g => by
    cases r with
    | cons r1 r2 =>
      cases g with
      | cons g1 g2 g3 =>
        rw [D.purK, Bool.and_eq_true] at p
        rw [D.rpK]
        obtain ⟨z1, z2⟩ := IsK.rg I sm q p.2 r2 g3
        refine ⟨.cons ?_ z1, .cons ?_ z2⟩
        · rw [← r1.1] at g1
          exact rg_key g1
        · show RG s.heap (DictEntry.val _) (D.rp _)
          rw [g2]
          exact Is.rg I sm h p.1 r1.2
end
end
section
variable [Tab] {X : Cx} {n : Nat}
def rReprX : List V → Hp → VK → Prop := fun xs H Q => ∃ B v d, xs = [v] ∧ Same B H ∧ Is B v d ∧ d.pur = true ∧ d.rp.showable = true ∧ d.rp.depth ≤ 60 ∧ d.rp.shown.length ≤ sizeLine ∧ Q (.str d.rp.shown) H
theorem call_reprX (hg : X.A.guards = some []) (hr : Room n X.A) : CallR X (.builtin "repr") rReprX := by
  intro pins s σ H xs us Q I r h
  obtain ⟨B, v, d, rfl, sm, i, hp, hs, hd, hz, q⟩ := h
  obtain ⟨u, rfl, ru⟩ := vals1 r
  exact RG.call (Is.rg I sm i hp ru) hs hz hg (by have := hr.units; omega) fun h' t tk hk => ⟨.str d.rp.shown, H, I.kept (t' := tk) hk, ⟨_, rfl⟩, q⟩
def reprX : List D → Option D
  | [x] => if x.pur && x.rp.showable && decide (x.rp.depth ≤ 60) && decide (x.rp.shown.length ≤ sizeLine) then some (.str x.rp.shown) else none
  | _ => none
theorem f_reprX {xs : List D} {z : D} (h : reprX xs = some z) : RDn rReprX xs z := by
  unfold reprX at h
  split at h
  · split at h
    · rename_i x hc
      cases h
      simp only [Bool.and_eq_true, decide_eq_true_eq] at hc
      intro B H vs Q s h1 q
      cases h1 with
      | cons h1 hn =>
        cases hn
        exact ⟨B, _, x, rfl, s.sm, h1, hc.1.1.1, hc.1.1.2, hc.1.2, hc.2, q _ B H (.refl s) (.str _)⟩
    · cases h
  · cases h
end
end Wd
/-! Texts and tuples repeated, tuples the other way round, dicts written down. -/
namespace Wd
open PySem PySem.Spec PyProof.Rows L2
/-! ### text * int -/
theorem rep_cps (l : List Nat) : ∀ m : Nat, (List.replicate m l.toArray).foldl (· ++ ·) #[] = (List.replicate m l).flatten.toArray := by
  have go : ∀ (m : Nat) (acc : List Nat), (List.replicate m l.toArray).foldl (· ++ ·) acc.toArray = (acc ++ (List.replicate m l).flatten).toArray := by
    intro m
    induction m with
    | zero => intro acc; simp
    | succ m ih =>
      intro acc
      rw [List.replicate_succ, List.foldl_cons, List.append_toArray, ih, List.replicate_succ, List.flatten_cons, List.append_assoc]
  intro m
  have := go m []
  simpa using this
def repS (x : Str) (k : Int) : Str := ⟨(List.replicate k.toNat x.cps.toList).flatten.toArray⟩
def rRepS : R2 := fun x y H Q => ∃ a k, x = .str a ∧ y = .int k ∧ 0 ≤ k ∧ k ≤ 1000 ∧ a.length ≤ 1000 ∧ Q (.str (repS a k)) H
theorem op_repS {X : Cx} : OpR X (binaryOp .Mult) rRepS := by
  intro pins s σ H x y v u Q I rx ry h
  obtain ⟨a, k, rfl, rfl, h0, h1, hz, q⟩ := h
  obtain ⟨t, rfl⟩ := (show ∃ t, v = Value.str a t from rx)
  obtain ⟨t', rfl⟩ := (show ∃ t', u = Value.int k t' from ry)
  have hm : ((a.length : Nat) : Int) * k ≤ 1000000 := by
    have a1 : ((a.length : Nat) : Int) * k ≤ 1000 * k := Int.mul_le_mul_of_nonneg_right (by omega) h0
    omega
  refine P.mul_str (by rw [decide_eq_false (by omega), decide_eq_false (by omega)]; rfl) (fun g _ z => ?_) (fun g _ => ?_) ?_
  · have e1 : ((a.length : Nat) : Int) ≤ 1000 := by omega
    have e2 : (9223372036854775807 : Int) / 1000 ≤ (2 ^ 63 - 1) / k := by
      refine Int.le_ediv_of_mul_le (by omega) ?_
      have : (9223372036854775807 : Int) / 1000 * k ≤ 9223372036854775807 / 1000 * 1000 := Int.mul_le_mul_of_nonneg_left h1 (by decide)
      exact Int.le_trans this (by decide)
    have e3 : (1000 : Int) ≤ 9223372036854775807 / 1000 := by decide
    omega
  · unfold Builtin.Str.tooLong
    rw [sizeLine_eq]
    refine decide_eq_false ?_
    have a1 : a.length * k.toNat ≤ 1000 * 1000 := Nat.mul_le_mul hz (by omega)
    omega
  · have fin : ∀ t, (fun u s' => EP X pins σ Q u s') (.str (repS a k) t) { s with toks := s.toks + 1 } := fun t => ⟨.str _, H, I.tok _, ⟨_, rfl⟩, q⟩
    by_cases g : k < 1
    · rw [if_pos g]
      have e : k = 0 := by omega
      subst e
      refine ⟨by decide, ?_⟩
      have e2 : repS a 0 = Str.empty := rfl
      rw [← e2]
      exact fin _
    · rw [if_neg g]
      by_cases g2 : (k == 1 || a.length == 0) = true
      · rw [if_pos g2]
        have e2 : repS a k = a := by
          rw [Bool.or_eq_true, beq_iff_eq, beq_iff_eq] at g2
          rcases g2 with rfl | g2
          · show Str.mk (List.replicate 1 a.cps.toList).flatten.toArray = a
            simp
          · have e3 : a.cps = #[] := Array.eq_empty_of_size_eq_zero g2
            obtain ⟨c⟩ := a
            simp only at e3
            subst e3
            unfold repS
            simp
        rw [e2] at q
        exact ⟨.str a, H, I, ⟨t, rfl⟩, q⟩
      · rw [if_neg g2]
        have e2 : (List.replicate k.toNat a.cps).foldl (· ++ ·) #[] = (List.replicate k.toNat a.cps.toList).flatten.toArray := rep_cps a.cps.toList k.toNat
        rw [e2]
        refine ⟨?_, fin _⟩
        show (List.replicate k.toNat a.cps.toList).flatten.toArray.size ≤ sizeLine
        rw [List.size_toArray, List.length_flatten, List.map_replicate, List.sum_replicate_nat, sizeLine_eq]
        have a1 : k.toNat * a.cps.toList.length ≤ 1000 * 1000 := Nat.mul_le_mul (by omega) hz
        omega
/-! ### t[::-1] -/
theorem rev_adjust (n : Nat) : Builtin.Slice.sliceAdjust none none (-1) (n : Int) = ((n : Int) - 1, -1) := rfl
theorem rev_places (n : Nat) : Builtin.Slice.slicePlaces ((n : Int) - 1) (-1) (-1) = n := by
  unfold Builtin.Slice.slicePlaces
  rw [if_neg (by decide)]
  by_cases z : (n : Int) - 1 > -1
  · rw [if_pos z]
    have : ((n : Int) - 1 - -1 - 1) / - -1 + 1 = n := by
      rw [show (- -1 : Int) = 1 from rfl, Int.ediv_one]
      omega
    omega
  · rw [if_neg z]
    omega
theorem rev_pick (xs : Array Value) : ((List.range xs.size).filterMap fun (k : Nat) => xs[((xs.size : Int) - 1 + (k : Int) * -1).toNat]?).toArray = xs.toList.reverse.toArray := by
  congr 1
  have e : ∀ m : Nat, m ≤ xs.size → (List.range m).filterMap (fun (k : Nat) => xs[((xs.size : Int) - 1 + (k : Int) * -1).toNat]?) = xs.toList.reverse.take m := by
    intro m
    induction m with
    | zero => intro _; simp
    | succ m ih =>
      intro hm
      have lt : m < xs.toList.reverse.length := by rw [List.length_reverse, Array.length_toList]; omega
      rw [List.range_succ, List.filterMap_append, ih (by omega), List.take_succ_eq_append_getElem lt]
      congr 1
      have e1 : ((xs.size : Int) - 1 + (m : Int) * -1).toNat = xs.size - 1 - m := by omega
      have lt2 : xs.size - 1 - m < xs.size := by omega
      simp only [List.filterMap_cons, List.filterMap_nil, e1, Array.getElem?_eq_getElem lt2, List.getElem_reverse, Array.length_toList, Array.getElem_toList]
  rw [e _ (Nat.le_refl _), ← Array.length_toList, ← List.length_reverse, List.take_length]
section
variable {prog : Program} {w : World} {A : Around} {E : Value → Shared → Prop} {s : Shared}
theorem rev_applied {sl : Addr} {t : Tok} {n : Nat} {Q : Int × Int × Nat → Shared → Prop} (hs : s.heap.IsSliceOf sl .none .none (.int (-1) t)) (h : Q ((n : Int) - 1, -1, n) s) : wpAny (model prog w) A (Builtin.Slice.sliceApplied (.ref sl) (pure (n : Int))) Q E s := by
  obtain ⟨os, hos, _, hd⟩ := id hs
  unfold Builtin.Slice.sliceApplied Builtin.Slice.sliceFields
  refine wpAny_bind (wpAny_bind (wpAny_field hos hd (x := .none) rfl (wpAny_bind (wpAny_field hos hd (x := .none) rfl (wpAny_bind (wpAny_field hos hd (x := .int (-1) t) rfl (wpAny_pure ?_)))))))
  refine wpAny_bind (HT.slicePart_ (.int (-1) t) ?_)
  show wpAny _ _ (if ((-1 : Int) == 0) = true then _ else _) _ _ s
  rw [if_neg (by decide)]
  refine wpAny_bind (HT.slicePart_ .none (wpAny_bind (HT.slicePart_ .none (wpAny_bind (wpAny_pure ?_)))))
  show wpAny _ _ (match Builtin.Slice.sliceAdjust none none (-1) (n : Int) with | (lo, hi) => pure (lo, (-1 : Int), Builtin.Slice.slicePlaces lo hi (-1))) _ _ s
  rw [rev_adjust]
  show wpAny _ _ (pure ((n : Int) - 1, (-1 : Int), Builtin.Slice.slicePlaces ((n : Int) - 1) (-1) (-1))) _ _ s
  rw [rev_places]
  exact wpAny_pure h
theorem rev_item {t sl : Addr} {xs : Array Value} {tk : Tok} {Q : Value → Shared → Prop} (ht : IsTup s.heap t xs) (hs : s.heap.IsSliceOf sl .none .none (.int (-1) tk)) (hz : xs.size ≤ sizeLine)
    (h : Q (.ref s.heap.objs.size) { s with heap := s.heap.push { cls := .type "tuple", data := .seq xs.toList.reverse.toArray } }) : wpAny (model prog w) A (getItem (.ref t) (.ref sl)) Q E s := by
  obtain ⟨os, hos, hc, _⟩ := id hs
  have hT : s.TypeIs (.ref sl) "slice" := ⟨os, hos, hc⟩
  have small : sizeOk (.seq xs.toList.reverse.toArray) := by
    show xs.toList.reverse.toArray.size ≤ sizeLine
    rw [List.size_toArray, List.length_reverse, Array.length_toList]
    exact hz
  unfold getItem
  try with_reducible refine wpAny_holding ?_
  first | refine wpAny_bind (wpAny_pure ?_) | skip
  refine wpAny_bind (wpAny_sequenceKey ht.typeIs (by decide) ?_)
  refine wpAny_bind (wpAny_callSpecial?_slot (name := Str.ofString "__getitem__") ht.typeIs slot_tuple_getitem (wpAny_call_entry slot_tuple_getitem ht.typeIs entry_tuple_getitem ?_ (args_tuple_getitem _ _)))
  show wpAny _ _ (Builtin.Tuple.tupleItemsOf (.ref t) >>= _) _ _ s
  refine wpAny_bind (tupleItemsOf_ ht (wpAny_bind (wpAny_typeOf hT ?_)))
  rw [if_pos (by decide)]
  refine wpAny_bind (rev_applied hs ?_)
  show wpAny _ _ (if ((xs.size : Int) - 1 == 0 && (-1 : Int) == 1 && xs.size == xs.size) = true then _ else _) _ _ s
  have off : ¬ (((xs.size : Int) - 1 == 0 && (-1 : Int) == 1 && xs.size == xs.size) = true) := by
    rw [show ((-1 : Int) == 1) = false from rfl, Bool.and_false, Bool.false_and]
    exact Bool.false_ne_true
  rw [if_neg off, rev_pick]
  first
    | exact wpAny_bind (m := Builtin.Tuple.tupleExact _) (wpAny_newObj_type (wpAny_pure ⟨_, rfl, wpAny_pure h⟩) small)
    | exact wpAny_bind (m := Builtin.Tuple.tupleExact _) (wpAny_newObj_type (wpAny_bind (wpAny_pure (wpAny_pure ⟨_, rfl, wpAny_pure h⟩))) small)
    | exact wpAny_bind (wpAny_bind (m := Builtin.Tuple.tupleExact _) (wpAny_newObj_type (wpAny_pure (wpAny_pure ⟨_, rfl, wpAny_pure h⟩)) small))
    | exact wpAny_bind (wpAny_bind (m := Builtin.Tuple.tupleExact _) (wpAny_newObj_type (wpAny_pure ⟨_, rfl, wpAny_pure h⟩) small))
end
def tRevT (te : TE) : TE := fun σ H Q => te σ H fun x H1 => ∃ a xs, x = .ref a ∧ H1 a = some (.tup xs) ∧ ∀ p, H1 p = none → Q (.ref p) (upd H1 p (.tup xs.reverse))
theorem pe_revT {X : Cx} {e : Expr} {te : TE} {k : Nat} {p1 p2 p3 pos : Pos} (he : PE X e te) : PE X (.Subscript e (.Slice none none (some (.UnaryOp .USub (.Constant (.int 1) k p1) p2)) p3) pos) (tRevT te) := by
  refine ⟨fun pins s σ H Q I h => Subscript_ (thn (he.run pins s σ H _ I h) fun v s1 ⟨x, H1, I1, r1, a, xs, ex, hx, q⟩ => ?_)⟩
  subst ex
  cases r1
  have neg : PO X (some (.UnaryOp .USub (.Constant (.int 1) k p1) p2)) (tPart (tUn (rU fun i => .int (-i)) (tC (.int 1)))) := po_some (pe_un un_neg pe_int)
  refine wpAny_Slice (thn (po_none.run pins s1 σ H1 (fun o H2 => o = none ∧ H2 = H1) I1 ⟨rfl, rfl⟩) ?_)
  rintro vl s2 ⟨l, H2, I2, pl, rfl, rfl⟩
  refine thn (po_none.run pins s2 σ _ (fun o H3 => o = none ∧ H3 = H2) I2 ⟨rfl, rfl⟩) ?_
  rintro vu s3 ⟨u, H3, I3, pu, rfl, rfl⟩
  refine thn (neg.run pins s3 σ _ (fun o H4 => o = some (-1) ∧ H4 = H3) I3 ⟨1, rfl, -1, rfl, rfl, rfl⟩) ?_
  rintro vs s4 ⟨o, H4, I4, ps, rfl, rfl⟩
  cases pl
  cases pu
  cases ps with
  | int _ t =>
    have I5 : Inv X pins σ H4 { s4 with heap := s4.heap.push { cls := .type "slice", data := .fields #[.none, .none, .int (-1) t] } } := I4.kept (t' := s4.toks) fun b ob q => Heap.get?_push_of_some _ q
    obtain ⟨its, r, ht, hz⟩ := I5.tuple (.of hx)
    have hl : its.toArray.size ≤ sizeLine := by rw [List.size_toArray, ← r.length]; exact hz
    show wpAny (model X.prog X.w) X.A (subscriptTail e _ (.ref a) (.ref s4.heap.objs.size)) _ _ _
    refine tail_any (ops := [.ref a, .ref s4.heap.objs.size]) ht.typeIs slot_tuple_getitem.lookup (rev_item ht (Heap.IsSliceOf.new _ _ _ _) hl ?_) (by with_unfolding_all rfl)
    refine ⟨.ref _, _, I5.laid (t' := s4.toks) (o := .tup xs.reverse) (fun b ob q => Heap.get?_push_of_some _ q) (Nat.le_refl _) ?_, rfl, q _ (I5.hok.fresh (Nat.le_refl _))⟩
    exact ⟨by rw [List.length_reverse]; exact hz, _, r.reverse, IsTup.new _ _⟩
/-! ### t * 1 -/
theorem tuple_mul1 (l : Addr) (items : Array Value) (n : Nat) (dd : Option Addr) (sl : Array (Option Value)) (u : Tok) :
    Meets (Builtin.«tuple.__mul__» ⟨[.ref l, .int 1 u], []⟩) (fun _ R s => s.heap.get? l = some { cls := .type "tuple", dict := dd, data := .seq items n, slots := sl } ∧ R (.ok (.ret (Value.ref l))) s) :=
  .of_wp fun prog w A R s h => by
    obtain ⟨hp, g, d, tk, os⟩ := s
    obtain ⟨hl, h⟩ := h
    have f1 := AutoSeq1.idx_int
    wp_walk using wpAny_loadPart' hl
    all_goals exact ⟨_, rfl, h⟩
def rRepT1 : R2 := fun x y H Q => ∃ l xs, x = .ref l ∧ y = .int 1 ∧ H l = some (.tup xs) ∧ Q (.ref l) H
theorem op_repT1 {X : Cx} : OpR X (binaryOp .Mult) rRepT1 := by
  intro pins s σ H x y v u Q I rx ry h
  obtain ⟨l, xs, rfl, rfl, hT, q⟩ := h
  cases rx
  obtain ⟨t, rfl⟩ := (show ∃ t, u = Value.int 1 t from ry)
  obtain ⟨its, r, ⟨⟨cls, dd, data, sl⟩, ho, hc, n, hd⟩, hs⟩ := I.tuple (.of hT)
  simp only at hc hd
  subst hc hd
  exact wpAny_binaryOp_repeat_ref (T := "tuple") (U := "int") (by decide) ⟨_, ho, rfl⟩ (fun s' => typeIs_int s' 1 t) noFill_tuple_mul F.fills_int_mul F.slot_int_rmul repeat_tuple F.slot_int_index.lookup
    (call_meets F.slot_int_rmul (typeIs_int s 1 t) F.entry_int_rmul (F.args_int_rmul_2 _ _) (int_rmul_tuple 1 t l its.toArray n dd sl)
      ⟨ho, rfl, ⟨_, ho, rfl⟩, call_meets F.slot_tuple_mul ⟨_, ho, rfl⟩ F.entry_tuple_mul (F.args_tuple_mul_2 _ _) (tuple_mul1 l its.toArray n dd sl t) ⟨ho, ⟨.ref l, H, I, rfl, q⟩⟩⟩)
/-! ### t != (), t == () -/
def rNeE : R2 := fun x y H Q => ∃ l m xs, x = .ref l ∧ y = .ref m ∧ H l = some (.tup xs) ∧ H m = some (.tup []) ∧ Q (.bl (!xs.isEmpty)) H
def rEqE : R2 := fun x y H Q => ∃ l m xs, x = .ref l ∧ y = .ref m ∧ H l = some (.tup xs) ∧ H m = some (.tup []) ∧ Q (.bl xs.isEmpty) H
theorem empty_same {its : List Value} {xs : List V} (r : Vals xs its) : ((List.range (min its.toArray.size ([] : List Value).toArray.size)).all (fun _ => true) && its.toArray.size == ([] : List Value).toArray.size) = xs.isEmpty := by
  have := r.length
  cases r with
  | nil => rfl
  | cons => simp
theorem op_neE {X : Cx} (hu : X.A.units < cLine) : OpR X (compareOp .NotEq) rNeE := by
  intro pins s σ H x y v u Q I rx ry h
  obtain ⟨l, m, xs, rfl, rfl, h1, h2, q⟩ := h
  cases rx
  cases ry
  obtain ⟨its, r, t1, _⟩ := I.tuple (.of h1)
  obtain ⟨its2, r2, t2, _⟩ := I.tuple (.of h2)
  cases r2
  have := SeqAt.RcNeAt.tuples (e := fun _ => true) t1 t2 hu fun j a b => absurd b (Nat.not_lt_zero _)
  rw [empty_same r] at this
  exact this X.prog X.w X.xe _ ⟨.bl _, H, I, rfl, q⟩
theorem op_eqE {X : Cx} (hu : X.A.units < cLine) : OpR X (compareOp .Eq) rEqE := by
  intro pins s σ H x y v u Q I rx ry h
  obtain ⟨l, m, xs, rfl, rfl, h1, h2, q⟩ := h
  cases rx
  cases ry
  obtain ⟨its, r, t1, _⟩ := I.tuple (.of h1)
  obtain ⟨its2, r2, t2, _⟩ := I.tuple (.of h2)
  cases r2
  have := SeqAt.RcAt.tuples (e := fun _ => true) t1 t2 hu fun j a b => absurd b (Nat.not_lt_zero _)
  rw [empty_same r] at this
  exact this X.prog X.w X.xe _ ⟨.bl _, H, I, rfl, q⟩
/-! ### as functions -/
section
variable [Tab] {X : Cx} {K : PySem.W.Frag} {W : WX} {ta : TE} {ma : M D}
def mulX : D → D → Option D
  | .str a, .int k => if decide (0 ≤ k) && decide (k ≤ 1000) && decide (a.length ≤ 1000) then some (.str (repS a k)) else none
  | .tup a, .int k => if k = 1 then some (.tup a) else mulF (.tup a) (.int k)
  | x, y => mulF x y
def rMulX (K : PySem.W.Frag) : R2 := fun x y H Q => rMulV K x y H Q ∨ rRepS x y H Q ∨ rRepT1 x y H Q
theorem op_mulX : OpR X (binaryOp .Mult) (rMulX X.K) := op_mulV.or (op_repS.or op_repT1)
theorem k_mulX (hK : X.K = K) : OpR X (binaryOp .Mult) (rMulX K) := hK ▸ op_mulX
theorem f_mulX {x y z : D} (h : mulX x y = some z) : RD2 (rMulX K) x y z := by
  unfold mulX at h
  split at h
  · split at h
    · rename_i hc
      cases h
      simp only [Bool.and_eq_true, decide_eq_true_eq] at hc
      intro B H v u Q s h1 h2 q
      cases h1
      cases h2
      exact .inr (.inl ⟨_, _, rfl, rfl, hc.1.1, hc.1.2, hc.2, q _ B H (.refl s) (.str _)⟩)
    · cases h
  · split at h
    · rename_i hc
      cases h
      subst hc
      intro B H v u Q s h1 h2 q
      cases h2
      cases h1 with
      | tup ha hx => exact .inr (.inr ⟨_, _, rfl, rfl, s _ _ ha, q _ B H (.refl s) (.tup ha hx)⟩)
    · intro B H v u Q s h1 h2 q
      exact .inl (f_mul h B H v u Q s h1 h2 q)
  · intro B H v u Q s h1 h2 q
    exact .inl (f_mul h B H v u Q s h1 h2 q)
def neX : D → D → Option D
  | .tup a, .tup [] => some (.bl (!a.isEmpty))
  | x, y => neF x y
def rNeX (K : PySem.W.Frag) : R2 := fun x y H Q => rNeU K x y H Q ∨ rNeE x y H Q
theorem k_neX (hK : X.K = K) (hu : X.A.units + 64 < cLine) : OpR X (compareOp .NotEq) (rNeX K) := hK ▸ (op_neU hu).or (op_neE (by omega))
theorem IsA.emp {B : Hp} {xs : List V} {ds : List D} (h : IsA B xs ds) : xs.isEmpty = ds.isEmpty := by cases h <;> rfl
theorem f_neX {x y z : D} (h : neX x y = some z) : RD2 (rNeX K) x y z := by
  unfold neX at h
  split at h
  · cases h
    intro B H v u Q s h1 h2 q
    cases h1 with
    | tup ha hx =>
      cases h2 with
      | tup hb hy =>
        cases hy
        exact .inr ⟨_, _, _, rfl, rfl, s _ _ ha, s _ _ hb, q _ B H (.refl s) (by rw [hx.emp]; exact .bl _)⟩
  · intro B H v u Q s h1 h2 q
    exact .inl (f_ne h B H v u Q s h1 h2 q)
def eqX : D → D → Option D
  | .tup a, .tup [] => some (.bl a.isEmpty)
  | x, y => eqF x y
def rEqX (K : PySem.W.Frag) : R2 := fun x y H Q => rEqU K x y H Q ∨ rEqE x y H Q
theorem k_eqX (hK : X.K = K) (hu : X.A.units + 64 < cLine) : OpR X (compareOp .Eq) (rEqX K) := hK ▸ (op_eqU hu).or (op_eqE (by omega))
theorem f_eqX {x y z : D} (h : eqX x y = some z) : RD2 (rEqX K) x y z := by
  unfold eqX at h
  split at h
  · cases h
    intro B H v u Q s h1 h2 q
    cases h1 with
    | tup ha hx =>
      cases h2 with
      | tup hb hy =>
        cases hy
        exact .inr ⟨_, _, _, rfl, rfl, s _ _ ha, s _ _ hb, q _ B H (.refl s) (by rw [hx.emp]; exact .bl _)⟩
  · intro B H v u Q s h1 h2 q
    exact .inl (f_eq h B H v u Q s h1 h2 q)
/-- the other way round -/
def revF : D → Option D
  | .tup ds => some (.tup ds.reverse)
  | _ => none
theorem IsA.rev {B : Hp} : ∀ {xs : List V} {ds : List D}, IsA B xs ds → IsA B xs.reverse ds.reverse
  | _, _, .nil => .nil
  | _, _, .cons h q => by rw [List.reverse_cons, List.reverse_cons]; exact (IsA.rev q).append (.one h)
theorem ex_rev (ha : EX W ta ma) : EX W (tRevT ta) (mUn revF ma) :=
  ex_un (r := fun x H1 Q => ∃ a xs, x = .ref a ∧ H1 a = some (.tup xs) ∧ ∀ p, H1 p = none → Q (.ref p) (upd H1 p (.tup xs.reverse))) (fun x z h B H v Q s i q => by
    cases x <;> try (cases h; done)
    cases h
    cases i with
    | tup ha hx =>
      rename_i a xs
      refine ⟨a, xs, rfl, s _ _ ha, fun p hp => ?_⟩
      have s2 : Stp0 B H (upd B p (.tup xs.reverse)) (upd H p (.tup xs.reverse)) := .new s hp
      exact q _ _ _ s2 (.tup upd_same (hx.rev.mono s2.up))) ha
/-- {"..": 0} -/
theorem pe_dis1 {x : Str} {i : Int} {k1 k2 : Nat} {p1 p2 pos : Pos} : PE X (.Dict [some (.Constant (.str x) k1 p1)] [.Constant (.int i) k2 p2] pos) (tDisp [(tC (.str x), tC (.int i))]) :=
  pe_disp (pps_cons pe_str pe_int pps_nil) rfl rfl (by simp) (Nat.le_of_ble_eq_true rfl)
theorem ex_dis1 {x : Str} {i : Int} : EX W (tDisp [(tC (.str x), tC (.int i))]) (giv (.dic [(.inr x, .int i)])) := ⟨fun ε r e h => by
  cases h
  refine ⟨.refl _, fun B H σ Q k g p hp => ⟨upd_same, [(.inr x, .int i)], rfl, Nat.le_of_ble_eq_true rfl, ?_⟩⟩
  have e : upd (upd H p (.dK [])) p (.dK (mergeK [] [(Sum.inr x, V.int i)])) = upd H p (.dK [(Sum.inr x, V.int i)]) := by
    funext c
    by_cases hc : c = p
    · subst hc; rw [upd_same, upd_same]; rfl
    · rw [upd_ne hc, upd_ne hc, upd_ne hc]
  rw [e]
  have s2 : Stp0 B H (upd B p (.dK [(Sum.inr x, V.int i)])) (upd H p (.dK [(Sum.inr x, V.int i)])) := .new k.sub hp
  exact g _ _ s2.zero (k.step0 s2) _ (.dic upd_same (.cons (.int i) .nil))⟩
end
end Wd
/-! The defs of the text, as functions of data. -/
namespace L02
open PySem L2 Wd
/-- what the functions lean on of the classes -/
structure Good (A : Adr) : Prop where
  kn_Board : A.kn (A.a "Board") = true
  ke_BadBoard : A.ke (A.a "BadBoard") = true
  ke_BadRows : A.ke (A.a "BadRows") = true
  ne_BadBoard_BadRows : A.a "BadBoard" ≠ A.a "BadRows"
  ne_BadRows_BadBoard : A.a "BadRows" ≠ A.a "BadBoard"
def m__law_take (A : Adr) : List D → List D → Option (D × List D) := arY 1 (runY 5 (sSeq (sIf (mBool (mOp gtF (mIxN 0 (giv (.int 0))) (giv (.int 0)))) (sSeq (sSet 2 (mOp modF (mCB intF (mCons (mIxN 0 (giv (.int 0))) mNil)) (mVar 1)))
      (sSeq (sItem 0 (mOp divF (mIxN 0 (giv (.int 0))) (mVar 1)) (giv (.int 0)))
      (sRet (mVar 2)))) sNx)
      (sSeq (sItem 0 (mOp addF (mIxN 0 (giv (.int 2))) (giv (.int 1))) (giv (.int 2)))
      (sSeq (sSet 3 (mOp ixF (mLst (mCons (giv (.int 2147483647)) (mCons (giv (.int 2147483629)) (mCons (giv (.int 2147483587)) (mCons (giv (.int 2147483579)) (mCons (giv (.int 2147483563)) mNil)))))) (mOp modF (mCB intF (mCons (mIxN 0 (giv (.int 2))) mNil)) (giv (.int 5)))))
      (sSeq (sSet 4 (mOp modF (mCB intF (mCons (mOp powF (mCB intF (mCons (mOp addF (mOp addF (mIxN 0 (giv (.int 1))) (mOp mulX (mOp mulX (giv (.int 101107)) (mIxN 0 (giv (.int 2)))) (mIxN 0 (giv (.int 2))))) (giv (.int 43))) mNil)) (giv (.int 3))) mNil)) (mVar 3)))
      (sSeq (sSet 4 (mOp modF (mCB intF (mCons (mOp mulX (mVar 4) (mOp addF (mOp modF (mCB intF (mCons (mVar 4) mNil)) (giv (.int 10061))) (mOp mulX (giv (.int 83)) (mIxN 0 (giv (.int 2)))))) mNil)) (giv (.int 2305843009213693907))))
      (sRet (mOp modF (mCB intF (mCons (mOp divF (mVar 4) (giv (.int 131))) mNil)) (mVar 1)))))))))
def m__law_size (A : Adr) : List D → List D → Option (D × List D) := arY 1 (runY 2 (sRet (mTup (mCons (mOp addF (giv (.int 1)) (mCallY 0 (m__law_take A) (mCons (mVar 1) mNil))) (mCons (mOp addF (giv (.int 1)) (mCallY 0 (m__law_take A) (mCons (mVar 1) mNil))) mNil)))))
def m__law_rows (A : Adr) : List D → List D → Option (D × List D) := arY 2 (runY 9 (sSeq (sParN 3 4 (mCallY 0 (m__law_take A) (mCons (giv (.int 4)) mNil)))
      (sSeq (sFor (mItA rng1F (mCons (mVar 1) mNil)) (gvName 5) (sSeq (sNew 6 mNil)
      (sSeq (sFor (mItA rng1F (mCons (mVar 2) mNil)) (gvName 7) (sSeq (sSet 8 (mOrV (mOp ltF (mVar 3) (giv (.int 2))) (mOrV (mOp ltF (mOp modF (mOp addF (mVar 5) (mVar 7)) (mCB maxF (mCons (mCB intF (mCons (mVar 1) mNil)) (mCons (mCB intF (mCons (mVar 2) mNil)) mNil)))) (giv (.int 2))) (mAndV (mOp eqX (mVar 3) (giv (.int 2))) (mOp gtF (mCallY 0 (m__law_take A) (mCons (giv (.int 3)) mNil)) (giv (.int 0)))))))
      (sApp 6 (mIf (mOr (mBool (mVar 8)) (mOr (mBool (mOp eqX (mOp modF (mVar 5) (mVar 2)) (mVar 7))) (mBool (mOp eqX (mOp modF (mVar 7) (mVar 1)) (mVar 5))))) (giv (.str "o")) (giv (.str "."))))))
      (sApp 4 (mJoin (giv (.str "")) (mVar 6))))))
      (sRet (mCB tupF (mCons (mVar 4) mNil))))))
def m__law_small_rows (A : Adr) : List D → List D → Option (D × List D) := arY 1 (runY 4 (sSeq (sAsg (mCallY 0 (m__law_size A) (mCons (mVar 1) mNil)) (gvPair 2 3))
      (sRet (mCallY 0 (m__law_rows A) (mCons (mVar 2) (mCons (mVar 3) mNil))))))
def m__law_of (A : Adr) : List D → List D → Option (D × List D) := arY 1 (runY 2 (sRet (mIxN 1 (mCallY 0 (m__law_take A) (mCons (mLenN 1) mNil)))))
def m__law_odd (A : Adr) : List D → List D → Option (D × List D) := arY 0 (runY 2 (sSeq (sSet 1 (mLst (mCons (giv .non) (mCons (giv (.bl true)) (mCons (giv (.bl false)) (mCons (giv (.int 0)) (mCons (giv (.int 1)) (mCons (mUn negF (giv (.int 1))) (mCons (giv (.int 10)) (mCons (giv (.str "")) (mCons (giv (.str "o")) (mCons (giv (.str "#")) (mCons (giv (.str ".")) (mCons (giv (.str "a")) (mCons (mTup mNil) (mCons (mLst mNil) (mCons mDic (mCons (mTup (mCons (mTup mNil) mNil)) (mCons (mTup (mCons (giv (.int 0)) mNil)) (mCons (mLst (mCons (giv (.int 0)) mNil)) (mCons (mTup (mCons (giv (.str "o")) mNil)) (mCons (mTup (mCons (giv (.bl true)) mNil)) mNil))))))))))))))))))))))
      (sRet (mCallY 0 (m__law_of A) (mCons (mOp addF (mVar 1) (mLst (mCons (mTup (mCons (mTup (mCons (giv (.int 0)) (mCons (giv (.int 0)) mNil))) mNil)) (mCons (mTup (mCons (giv (.str "row")) (mCons (giv (.int 0)) mNil))) (mCons (giv (.dic [(.inr "row", .int 0)])) (mCons (giv (.str "row")) (mCons (mTup (mCons (giv (.int 0)) (mCons (giv (.int 0)) (mCons (giv (.int 0)) mNil)))) (mCons (mTup (mCons (mTup (mCons (giv (.int 0)) (mCons (giv (.int 0)) mNil))) (mCons (mTup (mCons (giv (.int 0)) (mCons (giv (.int 0)) mNil))) mNil))) (mCons (mOp powF (giv (.int 10)) (giv (.int 8))) mNil))))))))) mNil)))))
def m__law_spoilt (A : Adr) : List D → List D → Option (D × List D) := arY 1 (runY 4 (sSeq (sSet 2 (mCallY 0 (m__law_take A) (mCons (mOp addF (mLenN 1) (giv (.int 1))) mNil)))
      (sSeq (sNew 3 (mCons (mCB listF (mCons (mVar 1) mNil)) (mCons (mUn revF (mVar 1)) (mCons (mOp addF (mSl (mVar 1) (giv none) (mPart (mVar 2))) (mSl (mVar 1) (mPart (mOp addF (mVar 2) (giv (.int 1)))) (giv none))) (mCons (mOp addF (mOp addF (mSl (mVar 1) (giv none) (mPart (mVar 2))) (mSl (mVar 1) (mPart (mVar 2)) (mPart (mOp addF (mVar 2) (giv (.int 1)))))) (mSl (mVar 1) (mPart (mVar 2)) (giv none))) mNil)))))
      (sSeq (sApp 3 (mOp addF (mOp addF (mSl (mVar 1) (giv none) (mPart (mVar 2))) (mTup (mCons (mCallY 0 (m__law_odd A) mNil) mNil))) (mSl (mVar 1) (mPart (mVar 2)) (giv none))))
      (sRet (mCallY 0 (m__law_of A) (mCons (mOp addF (mVar 3) (mLst (mCons (mOp addF (mOp addF (mSl (mVar 1) (giv none) (mPart (mVar 2))) (mTup (mCons (mCallY 0 (m__law_odd A) mNil) mNil))) (mSl (mVar 1) (mPart (mOp addF (mVar 2) (giv (.int 1)))) (giv none))) mNil))) mNil)))))))
def m__law_bent_rows (A : Adr) : List D → List D → Option (D × List D) := arY 1 (runY 9 (sSeq (sPar 2 3 (mCons (mCallY 0 (m__law_take A) (mCons (mLenN 1) mNil)) (mCons (mCallY 0 (m__law_take A) (mCons (giv (.int 6)) mNil)) mNil)))
      (sSeq (sSet 4 (mIf (mBool (mUn (isTy A D.kStr) (mIxN 1 (mVar 2)))) (mIxN 1 (mVar 2)) (giv (.str "o"))))
      (sSeq (sSet 5 (mCallY 0 (m__law_take A) (mCons (mOp addF (mLenN 4) (giv (.int 1))) mNil)))
      (sSeq (sIf (mBool (mOp eqX (mVar 3) (giv (.int 0)))) (sRet (mCallY 0 (m__law_spoilt A) (mCons (mVar 1) mNil))) sNx)
      (sSeq (sIf (mBool (mOp eqX (mVar 3) (giv (.int 1)))) (sRet (mOp addF (mOp addF (mSl (mVar 1) (giv none) (mPart (mVar 2))) (mTup (mCons (mOp mulX (giv (.str ".")) (mLenN 4)) mNil))) (mSl (mVar 1) (mPart (mOp addF (mVar 2) (giv (.int 1)))) (giv none)))) sNx)
      (sSeq (sIf (mBool (mOp eqX (mVar 3) (giv (.int 2)))) (sRet (mCB tupF (mCons (mLc (mIt itT (mVar 1)) (gvName 8) mYes (mIf (mBool (mUn (isTy A D.kStr) (mVar 8))) (mOp addF (mSl (mVar 8) (giv none) (mPart (mVar 5))) (mSl (mVar 8) (mPart (mOp addF (mVar 5) (giv (.int 1)))) (giv none))) (mVar 8)) [8]) mNil))) sNx)
      (sSeq (sIf (mBool (mOp eqX (mVar 3) (giv (.int 3)))) (sRet (mCB tupF (mCons (mLc (mIt itT (mVar 1)) (gvName 8) mYes (mIf (mBool (mUn (isTy A D.kStr) (mVar 8))) (mOp addF (mOp addF (mSl (mVar 8) (giv none) (mPart (mVar 5))) (giv (.str "."))) (mSl (mVar 8) (mPart (mOp addF (mVar 5) (giv (.int 1)))) (giv none))) (mVar 8)) [8]) mNil))) sNx)
      (sSeq (sSet 6 (mCallY 0 (m__law_of A) (mCons (mLst (mCons (giv (.str "o")) (mCons (giv (.str ".")) (mCons (giv (.str "#")) (mCons (giv (.str "O")) (mCons (giv (.str " ")) (mCons (giv (.str "")) (mCons (giv (.str "oo")) mNil)))))))) mNil)))
      (sSeq (sSet 7 (mOp addF (mOp addF (mSl (mVar 4) (giv none) (mPart (mVar 5))) (mVar 6)) (mSl (mVar 4) (mPart (mOp addF (mVar 5) (mCB intF (mCons (mOp eqX (mVar 3) (giv (.int 4))) mNil)))) (giv none))))
      (sRet (mOp addF (mOp addF (mSl (mVar 1) (giv none) (mPart (mVar 2))) (mTup (mCons (mVar 7) mNil))) (mSl (mVar 1) (mPart (mOp addF (mVar 2) (giv (.int 1)))) (giv none))))))))))))))
def m__none_is_empty (A : Adr) : List D → Option (Rs D) := arX 1 (runX 2 (sRet (mCB allF (mCons (mLc (mIt itT (mVar 0)) (gvName 1) mYes (mOp inF (giv (.str "o")) (mVar 1)) [1]) mNil))))
def m__turned (A : Adr) : List D → Option (Rs D) := arX 1 (runX 3 (sRet (mCB tupF (mCons (mLc (mItA rng1F (mCons (mCB lenF (mCons (mIxN 0 (giv (.int 0))) mNil)) mNil)) (gvName 1) mYes (mJoin (giv (.str "")) (mLc (mIt itT (mVar 0)) (gvName 2) mYes (mIxN 2 (mVar 1)) [2])) [1]) mNil))))
def m__is_row (A : Adr) : List D → Option (Rs D) := arX 1 (runX 2 (sSeq (sIf (mOr (mNot (mBool (mUn (isTy A D.kStr) (mVar 0)))) (mNot (mBool (mChain leF leF (giv (.int 1)) (mLenN 0) (giv (.int 10)))))) (sRet (giv (.bl false))) sNx)
      (sRet (mCB allF (mCons (mLc (mIt itS (mVar 0)) (gvName 1) mYes (mOp inF (mVar 1) (mTup (mCons (giv (.str "o")) (mCons (giv (.str ".")) mNil)))) [1]) mNil)))))
def m__are_rows (A : Adr) : List D → Option (Rs D) := arX 1 (runX 2 (sSeq (sIf (mOr (mNot (mBool (mUn (isTy A D.kTup) (mVar 0)))) (mNot (mBool (mChain leF leF (giv (.int 1)) (mLenN 0) (giv (.int 10)))))) (sRet (giv (.bl false))) sNx)
      (sRet (mAndV (mCB allF (mCons (mLc (mIt itT (mVar 0)) (gvName 1) mYes (mCall0 (m__is_row A) (mCons (mVar 1) mNil)) [1]) mNil)) (mCB allF (mCons (mLc (mIt itT (mVar 0)) (gvName 1) mYes (mOp eqX (mLenN 1) (mCB lenF (mCons (mIxN 0 (giv (.int 0))) mNil))) [1]) mNil))))))
def m__dots_of (A : Adr) : List D → Option (Rs D) := arX 1 (runX 4 (sSeq (sSet 1 (mCB lenF (mCons (mIxN 0 (giv (.int 0))) mNil)))
      (sRet (mCB tupF (mCons (mLc2 (mItA rng1F (mCons (mLenN 0) mNil)) (gvName 2) (mItA rng1F (mCons (mVar 1) mNil)) (gvName 3) (mBool (mOp eqX (mOp ixF (mIxN 0 (mVar 2)) (mVar 3)) (giv (.str "o")))) (mTup (mCons (mVar 2) (mCons (mVar 3) mNil))) [2, 3] [3]) mNil)))))
def m__wires_of (A : Adr) : List D → Option (Rs D) := arX 1 (runX 3 (sSeq (sSet 1 (mLc (mItA rng1F (mCons (mCB lenF (mCons (mIxN 0 (giv (.int 0))) mNil)) mNil)) (gvName 2) mYes (mTup (mCons (giv (.str "column")) (mCons (mVar 2) mNil))) [2]))
      (sRet (mCB tupF (mCons (mOp addF (mVar 1) (mLc (mItA rng1F (mCons (mLenN 0) mNil)) (gvName 2) mYes (mTup (mCons (giv (.str "row")) (mCons (mVar 2) mNil))) [2])) mNil)))))
def m_Board___init__ (A : Adr) : List D → Option (Rs (List (Str × D))) := arX 1 (runW (A.a "Board") 2 (sSeq (sIf (mOr (mNot (mBool (mCall0 (m__are_rows A) (mCons (mVar 1) mNil)))) (mOr (mNot (mBool (mCall0 (m__none_is_empty A) (mCons (mVar 1) mNil)))) (mNot (mBool (mCall0 (m__none_is_empty A) (mCons (mCall0 (m__turned A) (mCons (mVar 1) mNil)) mNil)))))) (sRaise (A.a "BadBoard") (mVar 1)) sNx)
      (sSeq (sFldS 0 A.kn "rows" (mVar 1))
      (sSeq (sFldS 0 A.kn "height" (mLenN 1))
      (sSeq (sFldS 0 A.kn "width" (mCB lenF (mCons (mIxN 1 (giv (.int 0))) mNil)))
      (sSeq (sFldS 0 A.kn "dots" (mCall0 (m__dots_of A) (mCons (mVar 1) mNil)))
      (sSeq (sFldS 0 A.kn "wires" (mCall0 (m__wires_of A) (mCons (mVar 1) mNil)))
      (sFldS 0 A.kn "is_full" (mOp eqX (mCB lenF (mCons (mFldN (flK A "dots") 0) mNil)) (mOp mulX (mFldN (flK A "height") 0) (mFldN (flK A "width") 0)))))))))))
def m__law_are_rows (A : Adr) : List D → Option (Rs D) := arX 1 (runX 5 (sSeq (sIf (mOr (mNot (mBool (mUn (isTy A D.kTup) (mVar 0)))) (mOr (mNot (mBool (mChain leF leF (giv (.int 1)) (mLenN 0) (giv (.int 10))))) (mNot (mBool (mCB allF (mCons (mLc (mIt itT (mVar 0)) (gvName 2) mYes (mUn (isTy A D.kStr) (mVar 2)) [2]) mNil)))))) (sRet (giv (.bl false))) sNx)
      (sSeq (sSet 1 (mCB lenF (mCons (mIxN 0 (giv (.int 0))) mNil)))
      (sSeq (sIf (mOr (mNot (mBool (mChain leF leF (giv (.int 1)) (mVar 1) (giv (.int 10))))) (mNot (mBool (mCB allF (mCons (mLc (mIt itT (mVar 0)) (gvName 2) mYes (mAndV (mOp eqX (mLenN 2) (mVar 1)) (mOp inF (giv (.str "o")) (mVar 2))) [2]) mNil))))) (sRet (giv (.bl false))) sNx)
      (sSeq (sIf (mNot (mBool (mCB allF (mCons (mLc (mIt itS (mJoin (giv (.str "")) (mVar 0))) (gvName 3) mYes (mOp inF (mVar 3) (giv (.str "o."))) [3]) mNil)))) (sRet (giv (.bl false))) sNx)
      (sRet (mCB allF (mCons (mLc (mItA rng1F (mCons (mVar 1) mNil)) (gvName 4) mYes (mOp inF (giv (.str "o")) (mLc (mIt itT (mVar 0)) (gvName 2) mYes (mIxN 2 (mVar 4)) [2])) [4]) mNil))))))))
def m__law_is_judged (A : Adr) : List D → Option (Rs D) := arX 1 (runX 2 (sSeq (sSet 1 (mRef A.ke (mMake (A.a "Board") (m_Board___init__ A) (mCons (mVar 0) mNil))))
      (sSeq (sIf (mBool (mCall0 (m__law_are_rows A) (mCons (mVar 0) mNil))) (sRet (mOp isNF (mVar 1) (giv .non))) sNx)
      (sRet (mAndV (mUn (isEr A "BadBoard") (mVar 1)) (mAndV (mNotV (mUn (isEr A "BadRows") (mVar 1))) (mOp eqX (mCB reprX (mCons (mUn (valF A.ke "value") (mVar 1)) mNil)) (mCB reprX (mCons (mVar 0) mNil)))))))))
def m__law_right (A : Adr) : List D → List D → Option (D × List D) := arY 0 (runY 7 (sSeq (sSet 1 (mCallY 0 (m__law_small_rows A) (mCons (mCallY 0 (m__law_of A) (mCons (mLst (mCons (giv (.int 10)) (mCons (giv (.int 4)) (mCons (giv (.int 2)) mNil)))) mNil)) mNil)))
      (sSeq (sFor (mItA rng1F (mCons (giv (.int 12)) mNil)) (gvName 2) (sSeq (sSet 3 (mCallY 0 (m__law_bent_rows A) (mCons (mVar 1) mNil)))
      (sSeq (sFor (mItA rng1F (mCons (mCallY 0 (m__law_take A) (mCons (giv (.int 3)) mNil)) mNil)) (gvName 4) (sSet 3 (mIf (mAnd (mBool (mUn (isTy A D.kTup) (mVar 3))) (mBool (mOp neX (mVar 3) (mTup mNil)))) (mCallY 0 (m__law_bent_rows A) (mCons (mVar 3) mNil)) (mVar 3))))
      (sIf (mNot (mBool (mCall0 (m__law_is_judged A) (mCons (mVar 3) mNil)))) (sRet (giv (.bl false))) sNx))))
      (sSeq (sSet 5 (mOp addF (giv (.int 1)) (mCallY 0 (m__law_take A) (mCons (giv (.int 10)) mNil))))
      (sSeq (sSet 6 (mLst (mCons (mOp mulX (mTup (mCons (mOp mulX (giv (.str "o")) (mVar 5)) mNil)) (giv (.int 10))) (mCons (mOp mulX (mTup (mCons (mOp mulX (giv (.str "o")) (mVar 5)) mNil)) (giv (.int 11))) (mCons (mOp mulX (mTup (mCons (mOp mulX (giv (.str "o")) (giv (.int 10))) mNil)) (mVar 5)) (mCons (mOp mulX (mTup (mCons (mOp mulX (giv (.str "o")) (giv (.int 11))) mNil)) (mVar 5)) (mCons (mTup (mCons (giv (.str "")) mNil)) (mCons (mTup mNil) mNil))))))))
      (sRet (mCB allF (mCons (mLc (mIt itF (mOp addF (mVar 6) (mLst (mCons (mCallY 0 (m__law_odd A) mNil) (mCons (mCB listF (mCons (mVar 1) mNil)) (mCons (mJoin (giv (.str "")) (mVar 1)) (mCons (mIxN 1 (giv (.int 0))) mNil))))))) (gvName 3) mYes (mCall0 (m__law_is_judged A) (mCons (mVar 3) mNil)) [3]) mNil))))))))
def m__law_pot (A : Adr) : List D → Option (List D) := arX 2 (runZ 5 (sSeq (sSet 2 (mIf (mBool (mOp ltF (mVar 1) (mLenN 0))) (mIxN 0 (mVar 1)) (mOp addF (mOp mulX (giv (.int 29)) (mVar 1)) (giv (.int 13)))))
      (sSeq (sSet 3 (mOp mulX (mOp modF (mCB intF (mCons (mCB absF (mCons (mVar 2) mNil)) mNil)) (mOp powF (mOp powF (giv (.int 10)) (giv (.int 60))) (giv (.int 5)))) (mCB intF (mCons (mOp geF (mCB absF (mCons (mVar 2) mNil)) (mOp powF (giv (.int 10)) (giv (.int 18)))) mNil))))
      (sSeq (sSet 4 (mOp addF (mOp addF (mOp mulX (mOp modF (mCB intF (mCons (mVar 2) mNil)) (giv (.int 2305843009213693951))) (giv (.int 68023))) (mOp mulX (mOp mulX (giv (.int 7103)) (mVar 1)) (mVar 1))) (giv (.int 71))))
      (sRetN (mCons (mVar 3) (mCons (mOp modF (mCB intF (mCons (mVar 4) mNil)) (giv (.int 2305843009213693921))) (mCons (giv (.int 0)) mNil))))))))
def m_law (A : Adr) : List D → Option (Rs D) := arX 1 (runX 2 (sRet (mCB allF (mCons (mLc (mItA rng1F (mCons (mCB maxF (mCons (giv (.int 1)) (mCons (mCB minF (mCons (giv (.int 4)) (mCons (mLenN 0) mNil))) mNil))) mNil)) (gvName 1) mYes (mCallN (m__law_right A) (m__law_pot A) (mCons (mVar 0) (mCons (mVar 1) mNil))) [1]) mNil))))
end L02
/-! That the machine does what the functions say. -/
namespace L02
open PySem L2 Wd
def top (i : Nat) : Stmt := PySem.Challenge.pw_wiresindark_k02_boards_refused.main.body.getD i (.Pass ⟨0, 0, 0, 0⟩)
def inClass (s : Stmt) (j : Nat) : Stmt := match s with
  | .ClassDef (body := b) .. => b.getD j (.Pass ⟨0, 0, 0, 0⟩)
  | _ => .Pass ⟨0, 0, 0, 0⟩
abbrev WF : WX := fun _ _ _ _ => False
/-- a def that shows values, as callers know it -/
structure CalG (P : Program) (w : World) (K : PySem.W.Frag) (mg : Str → Option Value) (base : Heap) (k : Nat) (x : Str) (f : Addr) (fd : FuncData) (ps : List Str) (sp : Sp) : Prop where
  ok : FnG P w K mg base k f fd ps sp
  mgx : mg x = some (.ref f)
  kp : PySem.W.keepIn K (.ref f) = true
  bd : Binds K fd ps []
structure Txt (K : PySem.W.Frag) (mg : Str → Option Value) (A : Adr) : Prop where
  b_abs : mg "abs" = none
  b_all : mg "all" = none
  b_int : mg "int" = none
  b_isinstance : mg "isinstance" = none
  b_len : mg "len" = none
  b_list : mg "list" = none
  b_max : mg "max" = none
  b_min : mg "min" = none
  b_range : mg "range" = none
  b_repr : mg "repr" = none
  b_str : mg "str" = none
  b_tuple : mg "tuple" = none
  g_DOT : ∃ t, mg "DOT" = some (.str "o" t)
  g_LONGEST : ∃ t, mg "LONGEST" = some (.int 10 t)
  g_NO_DOT : ∃ t, mg "NO_DOT" = some (.str "." t)
  is_BadBoard : IsiOk K (.ref (A.a "BadBoard")) (fun _ => none) (fun C => if A.ke C then some (decide (C = A.a "BadBoard") || "BadBoard" == "WireError") else none) D.kNo
  c_BadBoard : mg "BadBoard" = some (.ref (A.a "BadBoard"))
  is_BadRows : IsiOk K (.ref (A.a "BadRows")) (fun _ => none) (fun C => if A.ke C then some (decide (C = A.a "BadRows") || "BadRows" == "WireError") else none) D.kNo
  c_BadRows : mg "BadRows" = some (.ref (A.a "BadRows"))
  is_str : IsiOk K (.type "str") (fun C => if A.kn C then some false else none) (fun _ => none) D.kStr
  is_tuple : IsiOk K (.type "tuple") (fun C => if A.kn C then some false else none) (fun _ => none) D.kTup
  fl_dots : Fields K "dots" (flK A "dots")
  fl_height : Fields K "height" (flK A "height")
  fl_width : Fields K "width" (flK A "width")
  fs_dots : ∀ C, A.kn C = true → Cls K C ∧ NoAttr K C "dots"
  fs_height : ∀ C, A.kn C = true → Cls K C ∧ NoAttr K C "height"
  fs_is_full : ∀ C, A.kn C = true → Cls K C ∧ NoAttr K C "is_full"
  fs_rows : ∀ C, A.kn C = true → Cls K C ∧ NoAttr K C "rows"
  fs_width : ∀ C, A.kn C = true → Cls K C ∧ NoAttr K C "width"
  fs_wires : ∀ C, A.kn C = true → Cls K C ∧ NoAttr K C "wires"
  vl_value : ∀ C, A.ke C = true → XfC K C ∧ PySem.W.findIn K (.ref C) "value" = some none
  ex_WireError : ∀ C, A.ke C = true → PySem.W.exmOne K (.ref C) (.ref (A.a "WireError")) = some true
/-- the def that calls what it is handed -/
structure RefD (K : PySem.W.Frag) (mg : Str → Option Value) (A : Adr) (fR : Addr) (oc dV kV doc pm cdv ct : Value) (an od : Option Addr) (osl : Array (Option Value)) (s : Stmt) : Prop where
  mgx : mg "_law_refusal" = some (.ref fR)
  kp : PySem.W.keepIn K (.ref fR) = true
  lk : K.lookup fR = some ⟨oc, od, .func (PySem.W.fnOf "_law_refusal" "_law_refusal" (defArgs s) (defBody s) (defScope s) dV kV doc pm an cdv ct), osl⟩
  cd : PySem.W.codeIn K cdv "_law_refusal" = true
  bd : L2.Binds K (PySem.W.fnOf "_law_refusal" "_law_refusal" (defArgs s) (defBody s) (defScope s) dV kV doc pm an cdv ct) ["_law_look"] []
  me : mg "WireError" = some (.ref (A.a "WireError"))
section
variable [Tab] {P : Program} {w : World} {K : PySem.W.Frag} {mg : Str → Option Value} {base : Heap} {A : Adr}
abbrev s_err : Stmt := inClass (top 1) 0
theorem sc_err : FnScope ["self", "value"] ["self", "value"] (defScope s_err) := ⟨rfl, rfl, rfl, by decide +kernel, rfl, by decide +kernel, by decide +kernel⟩
abbrev s__law_take : Stmt := top 21
theorem sc__law_take : FnScope ["_law_pot_here", "_law_upto", "_law_digit", "_law_prime", "_law_stirred"] ["_law_pot_here", "_law_upto"] (defScope s__law_take) := ⟨rfl, rfl, rfl, by decide +kernel, rfl, by decide +kernel, by decide +kernel⟩
theorem ok__law_take {f : Addr} {fd : FuncData} (F : Fun K "_law_take" "_law_take" s__law_take f fd) (T : Txt K mg A) : FnOk P w K mg base CX0 1 f fd ["_law_pot_here", "_law_upto"] (spY (m__law_take A)) := by
  refine F.ok (k := 0) sc__law_take (fun vs H Q E h => len_Y (fun ms ds r e => arY_len e) h) (fun cdv A' outer s H vs Q E hr h => ?_)
  have nd := sc__law_take.nd
  exact ⟨_, (pss_cons (ps_if (pt_cmpR op_gt (pe_ix (k_ix (K := K) rfl) (pv 0) pe_int (fun _ _ => rfl)) pe_int (nomark _)) (pss_cons (ps_set (i := 2) nd rfl (by first | exact Or.inl rfl | exact Or.inr rfl) (pe_op op_mod (pe_callTy call_intK (by rfl) T.b_int (by decide +kernel) (pa_cons (pe_ix (k_ix (K := K) rfl) (pv 0) pe_int (fun _ _ => rfl)) pa_nil)) (pv 1)))
      (pss_cons (ps_asg (pe_op op_fdiv (pe_ix (k_ix (K := K) rfl) (pv 0) pe_int (fun _ _ => rfl)) (pv 1)) (pg_sub (pv 0) pe_int set_list))
      (pss_one (ps_ret (pv 2))))) pss_nil)
      (pss_cons (ps_asg (pe_op (k_addU (K := K) rfl) (pe_ix (k_ix (K := K) rfl) (pv 0) pe_int (fun _ _ => rfl)) pe_int) (pg_sub (pv 0) pe_int set_list))
      (pss_cons (ps_set (i := 3) nd rfl (by first | exact Or.inl rfl | exact Or.inr rfl) (pe_ix (k_ix (K := K) rfl) (pe_lst (pa_cons pe_int (pa_cons pe_int (pa_cons pe_int (pa_cons pe_int (pa_cons pe_int pa_nil)))))) (pe_op op_mod (pe_callTy call_intK (by rfl) T.b_int (by decide +kernel) (pa_cons (pe_ix (k_ix (K := K) rfl) (pv 0) pe_int (fun _ _ => rfl)) pa_nil)) pe_int) (fun _ _ => rfl)))
      (pss_cons (ps_set (i := 4) nd rfl (by first | exact Or.inl rfl | exact Or.inr rfl) (pe_op op_mod (pe_callTy call_intK (by rfl) T.b_int (by decide +kernel) (pa_cons (pe_op op_powW (pe_callTy call_intK (by rfl) T.b_int (by decide +kernel) (pa_cons (pe_op (k_addU (K := K) rfl) (pe_op (k_addU (K := K) rfl) (pe_ix (k_ix (K := K) rfl) (pv 0) pe_int (fun _ _ => rfl)) (pe_op (k_mulX (K := K) rfl) (pe_op (k_mulX (K := K) rfl) pe_int (pe_ix (k_ix (K := K) rfl) (pv 0) pe_int (fun _ _ => rfl))) (pe_ix (k_ix (K := K) rfl) (pv 0) pe_int (fun _ _ => rfl)))) pe_int) pa_nil)) pe_int) pa_nil)) (pv 3)))
      (pss_cons (ps_set (i := 4) nd rfl (by first | exact Or.inl rfl | exact Or.inr rfl) (pe_op op_mod (pe_callTy call_intK (by rfl) T.b_int (by decide +kernel) (pa_cons (pe_op (k_mulX (K := K) rfl) (pv 4) (pe_op (k_addU (K := K) rfl) (pe_op op_mod (pe_callTy call_intK (by rfl) T.b_int (by decide +kernel) (pa_cons (pv 4) pa_nil)) pe_int) (pe_op (k_mulX (K := K) rfl) pe_int (pe_ix (k_ix (K := K) rfl) (pv 0) pe_int (fun _ _ => rfl))))) pa_nil)) pe_int))
      (pss_one (ps_ret (pe_op op_mod (pe_callTy call_intK (by rfl) T.b_int (by decide +kernel) (pa_cons (pe_op op_fdiv (pv 4) pe_int) pa_nil)) (pv 1))))))))),
    body_Y (W := WF) ((sx_seq (sx_if (et_test (ex_op (f := gtF) (fun _ _ _ h => f_gt h) (ex_ixN (i := 0) ex_int) ex_int)) (sx_seq (sx_set (i := 2) (ex_op (f := modF) (fun _ _ _ h => f_mod h) (ex_tcb (f := intF) (fun _ _ h => f_int h) (ea_cons (ex_ixN (i := 0) ex_int) ea_nil)) (ex_var (i := 1))) (by first | exact .inl (by decide) | exact .inr rfl))
      (sx_seq (sx_item (i := 0) (ex_op (f := divF) (fun _ _ _ h => f_div h) (ex_ixN (i := 0) ex_int) (ex_var (i := 1))) ex_int)
      (sx_ret (ex_var (i := 2))))) sx_next)
      (sx_seq (sx_item (i := 0) (ex_op (f := addF) (fun _ _ _ h => f_add h) (ex_ixN (i := 0) ex_int) ex_int) ex_int)
      (sx_seq (sx_set (i := 3) (ex_op (f := ixF) (fun _ _ _ h => f_ix h) (ex_lst (ea_cons ex_int (ea_cons ex_int (ea_cons ex_int (ea_cons ex_int (ea_cons ex_int ea_nil)))))) (ex_op (f := modF) (fun _ _ _ h => f_mod h) (ex_tcb (f := intF) (fun _ _ h => f_int h) (ea_cons (ex_ixN (i := 0) ex_int) ea_nil)) ex_int)) (by first | exact .inl (by decide) | exact .inr rfl))
      (sx_seq (sx_set (i := 4) (ex_op (f := modF) (fun _ _ _ h => f_mod h) (ex_tcb (f := intF) (fun _ _ h => f_int h) (ea_cons (ex_op (f := powF) (fun _ _ _ h => f_pow h) (ex_tcb (f := intF) (fun _ _ h => f_int h) (ea_cons (ex_op (f := addF) (fun _ _ _ h => f_add h) (ex_op (f := addF) (fun _ _ _ h => f_add h) (ex_ixN (i := 0) ex_int) (ex_op (f := mulX) (fun _ _ _ h => f_mulX h) (ex_op (f := mulX) (fun _ _ _ h => f_mulX h) ex_int (ex_ixN (i := 0) ex_int)) (ex_ixN (i := 0) ex_int))) ex_int) ea_nil)) ex_int) ea_nil)) (ex_var (i := 3))) (by first | exact .inl (by decide) | exact .inr rfl))
      (sx_seq (sx_set (i := 4) (ex_op (f := modF) (fun _ _ _ h => f_mod h) (ex_tcb (f := intF) (fun _ _ h => f_int h) (ea_cons (ex_op (f := mulX) (fun _ _ _ h => f_mulX h) (ex_var (i := 4)) (ex_op (f := addF) (fun _ _ _ h => f_add h) (ex_op (f := modF) (fun _ _ _ h => f_mod h) (ex_tcb (f := intF) (fun _ _ h => f_int h) (ea_cons (ex_var (i := 4)) ea_nil)) ex_int) (ex_op (f := mulX) (fun _ _ _ h => f_mulX h) ex_int (ex_ixN (i := 0) ex_int)))) ea_nil)) ex_int) (by first | exact .inl (by decide) | exact .inr rfl))
      (sx_ret (ex_op (f := modF) (fun _ _ _ h => f_mod h) (ex_tcb (f := intF) (fun _ _ h => f_int h) (ea_cons (ex_op (f := divF) (fun _ _ _ h => f_div h) (ex_var (i := 4)) ex_int) ea_nil)) (ex_var (i := 1)))))))))) (arY_sp h)⟩
abbrev s__law_size : Stmt := top 24
theorem sc__law_size : FnScope ["_law_pot_here", "_law_most"] ["_law_pot_here", "_law_most"] (defScope s__law_size) := ⟨rfl, rfl, rfl, by decide +kernel, rfl, by decide +kernel, by decide +kernel⟩
theorem ok__law_size {f : Addr} {fd : FuncData} (F : Fun K "_law_size" "_law_size" s__law_size f fd) (T : Txt K mg A) {f__law_take : Addr} {fx__law_take : FuncData} (C__law_take : Cal P w K mg base CX0 1 "_law_take" f__law_take fx__law_take ["_law_pot_here", "_law_upto"] (spY (m__law_take A))) : FnOk P w K mg base CX0 2 f fd ["_law_pot_here", "_law_most"] (spY (m__law_size A)) := by
  refine F.ok (k := 1) sc__law_size (fun vs H Q E h => len_Y (fun ms ds r e => arY_len e) h) (fun cdv A' outer s H vs Q E hr h => ?_)
  have nd := sc__law_size.nd
  exact ⟨_, (pss_one (ps_ret (pe_tup (pa_cons (pe_op (k_addU (K := K) rfl) pe_int (pe_call C__law_take.ok (hr.mono (by decide)) rfl C__law_take.mgx C__law_take.kp C__law_take.bd .nil pass0 (pa_cons (pv 0) (pa_cons (pv 1) pa_nil)))) (pa_cons (pe_op (k_addU (K := K) rfl) pe_int (pe_call C__law_take.ok (hr.mono (by decide)) rfl C__law_take.mgx C__law_take.kp C__law_take.bd .nil pass0 (pa_cons (pv 0) (pa_cons (pv 1) pa_nil)))) pa_nil))))),
    body_Y (W := WF) ((sx_ret (ex_tup (ea_cons (ex_op (f := addF) (fun _ _ _ h => f_add h) ex_int (ex_callY (i := 0) (ea_cons (ex_var (i := 1)) ea_nil))) (ea_cons (ex_op (f := addF) (fun _ _ _ h => f_add h) ex_int (ex_callY (i := 0) (ea_cons (ex_var (i := 1)) ea_nil))) ea_nil))))) (arY_sp h)⟩
abbrev s__law_rows : Stmt := top 23
theorem sc__law_rows : FnScope ["_law_pot_here", "_law_tall", "_law_wide", "_law_way", "_law_rows_here", "_law_row", "_law_marks", "_law_column", "_law_is_there"] ["_law_pot_here", "_law_tall", "_law_wide"] (defScope s__law_rows) := ⟨rfl, rfl, rfl, by decide +kernel, rfl, by decide +kernel, by decide +kernel⟩
theorem ok__law_rows {f : Addr} {fd : FuncData} (F : Fun K "_law_rows" "_law_rows" s__law_rows f fd) (T : Txt K mg A) {f__law_take : Addr} {fx__law_take : FuncData} (C__law_take : Cal P w K mg base CX0 1 "_law_take" f__law_take fx__law_take ["_law_pot_here", "_law_upto"] (spY (m__law_take A))) : FnOk P w K mg base CX0 2 f fd ["_law_pot_here", "_law_tall", "_law_wide"] (spY (m__law_rows A)) := by
  refine F.ok (k := 1) sc__law_rows (fun vs H Q E h => len_Y (fun ms ds r e => arY_len e) h) (fun cdv A' outer s H vs Q E hr h => ?_)
  have nd := sc__law_rows.nd
  exact ⟨_, (pss_cons (ps_par (i := 3) (j := 4) (by rfl) nd rfl rfl (by decide) rfl rfl (pa_cons (pe_call C__law_take.ok (hr.mono (by decide)) rfl C__law_take.mgx C__law_take.kp C__law_take.bd .nil pass0 (pa_cons (pv 0) (pa_cons pe_int pa_nil))) (pa_cons (pe_lst pa_nil) pa_nil)) (by rfl))
      (pss_cons (ps_for PassesOwn.never rfl (pi_range1 (by rfl) T.b_range (pa_cons (pv 1) pa_nil)) (pg_name (i := 5) nd rfl (by first | exact Or.inl rfl | exact Or.inr rfl)) (pss_cons (ps_set (i := 6) nd rfl (by first | exact Or.inl rfl | exact Or.inr rfl) (pe_lst pa_nil))
      (pss_cons (ps_for PassesOwn.never rfl (pi_range1 (by rfl) T.b_range (pa_cons (pv 2) pa_nil)) (pg_name (i := 7) nd rfl (by first | exact Or.inl rfl | exact Or.inr rfl)) (pss_cons (ps_set (i := 8) nd rfl (by first | exact Or.inl rfl | exact Or.inr rfl) (pe_or (pe_cmpR (k_ltU (K := K) rfl hr.units0) (pv 3) pe_int (nomark _)) (pe_or (pe_cmpR (k_ltU (K := K) rfl hr.units0) (pe_op op_mod (pe_op (k_addU (K := K) rfl) (pv 5) (pv 7)) (pe_callB (call_maxK rfl) (by rfl) T.b_max (by decide +kernel) (pa_cons (pe_callTy call_intK (by rfl) T.b_int (by decide +kernel) (pa_cons (pv 1) pa_nil)) (pa_cons (pe_callTy call_intK (by rfl) T.b_int (by decide +kernel) (pa_cons (pv 2) pa_nil)) pa_nil)))) pe_int (nomark _)) (pe_one (pe_and (pe_cmpR (k_eqX (K := K) rfl hr.units) (pv 3) pe_int (nomark _)) (pe_one (pe_cmpR op_gt (pe_call C__law_take.ok (hr.mono (by decide)) rfl C__law_take.mgx C__law_take.kp C__law_take.bd .nil pass0 (pa_cons (pv 0) (pa_cons pe_int pa_nil))) pe_int (nomark _))))))))
      (pss_one (ps_expr (pe_bm PySem.F.plainAttrs_list PySem.F.slot_list_append PySem.F.type_list_append mt_append (pv 6) (pa_cons (pe_ifExp (PW.pt (pw_or (pt_val (pv 8)) (pw_or (pt_cmpR (k_eqX (K := K) rfl hr.units) (pe_op op_mod (pv 5) (pv 2)) (pv 7) (nomark _)) (pw_or1 (pt_cmpR (k_eqX (K := K) rfl hr.units) (pe_op op_mod (pv 7) (pv 1)) (pv 5) (nomark _)))))) pe_str pe_str) pa_nil))))))
      (pss_one (ps_expr (pe_bm PySem.F.plainAttrs_list PySem.F.slot_list_append PySem.F.type_list_append mt_append (pv 4) (pa_cons (k_join (K := K) rfl pe_str (pv 6)) pa_nil)))))))
      (pss_one (ps_ret (pe_callTy (k_tuple (K := K) rfl) (by rfl) T.b_tuple (by decide +kernel) (pa_cons (pv 4) pa_nil)))))),
    body_Y (W := WF) ((sx_seq (sx_parN (i := 3) (j := 4) (ex_callY (i := 0) (ea_cons ex_int ea_nil)) (by first | exact .inl (by decide) | exact .inr rfl) (by first | exact .inl (by decide) | exact .inr rfl))
      (sx_seq (sx_for (vs := [5]) (ei_rng1 (ea_cons (ex_var (i := 1)) ea_nil)) (eg_name (by simp)) (sx_seq (sx_new (i := 6) ea_nil (by first | exact .inl (by decide) | exact .inr rfl))
      (sx_seq (sx_for (vs := [7]) (ei_rng1 (ea_cons (ex_var (i := 2)) ea_nil)) (eg_name (by simp)) (sx_seq (sx_set (i := 8) (ex_orV (ex_op (f := ltF) (fun _ _ _ h => f_lt h) (ex_var (i := 3)) ex_int) (ex_orV (ex_op (f := ltF) (fun _ _ _ h => f_lt h) (ex_op (f := modF) (fun _ _ _ h => f_mod h) (ex_op (f := addF) (fun _ _ _ h => f_add h) (ex_var (i := 5)) (ex_var (i := 7))) (ex_tcb (f := maxF) (fun _ _ h => f_max h) (ea_cons (ex_tcb (f := intF) (fun _ _ h => f_int h) (ea_cons (ex_var (i := 1)) ea_nil)) (ea_cons (ex_tcb (f := intF) (fun _ _ h => f_int h) (ea_cons (ex_var (i := 2)) ea_nil)) ea_nil)))) ex_int) (ex_andV (ex_op (f := eqX) (fun _ _ _ h => f_eqX h) (ex_var (i := 3)) ex_int) (ex_op (f := gtF) (fun _ _ _ h => f_gt h) (ex_callY (i := 0) (ea_cons ex_int ea_nil)) ex_int)))) (by first | exact .inl (by decide) | exact .inr rfl))
      (sx_app (i := 6) (ex_if (et_or (et_B (ex_var (i := 8))) (et_or (et_test (ex_op (f := eqX) (fun _ _ _ h => f_eqX h) (ex_op (f := modF) (fun _ _ _ h => f_mod h) (ex_var (i := 5)) (ex_var (i := 2))) (ex_var (i := 7)))) (et_test (ex_op (f := eqX) (fun _ _ _ h => f_eqX h) (ex_op (f := modF) (fun _ _ _ h => f_mod h) (ex_var (i := 7)) (ex_var (i := 1))) (ex_var (i := 5)))))) ex_str ex_str))) (by first | exact .inl (by decide) | exact .inr rfl))
      (sx_app (i := 4) (ex_join ex_str (ex_var (i := 6)))))) (by first | exact .inl (by decide) | exact .inr rfl))
      (sx_ret (ex_tcb (f := tupF) (fun _ _ h => f_tup h) (ea_cons (ex_var (i := 4)) ea_nil)))))) (arY_sp h)⟩
abbrev s__law_small_rows : Stmt := top 25
theorem sc__law_small_rows : FnScope ["_law_pot_here", "_law_most", "_law_tall", "_law_wide"] ["_law_pot_here", "_law_most"] (defScope s__law_small_rows) := ⟨rfl, rfl, rfl, by decide +kernel, rfl, by decide +kernel, by decide +kernel⟩
theorem ok__law_small_rows {f : Addr} {fd : FuncData} (F : Fun K "_law_small_rows" "_law_small_rows" s__law_small_rows f fd) (T : Txt K mg A) {f__law_size : Addr} {fx__law_size : FuncData} (C__law_size : Cal P w K mg base CX0 2 "_law_size" f__law_size fx__law_size ["_law_pot_here", "_law_most"] (spY (m__law_size A))) {f__law_rows : Addr} {fx__law_rows : FuncData} (C__law_rows : Cal P w K mg base CX0 2 "_law_rows" f__law_rows fx__law_rows ["_law_pot_here", "_law_tall", "_law_wide"] (spY (m__law_rows A))) : FnOk P w K mg base CX0 3 f fd ["_law_pot_here", "_law_most"] (spY (m__law_small_rows A)) := by
  refine F.ok (k := 2) sc__law_small_rows (fun vs H Q E h => len_Y (fun ms ds r e => arY_len e) h) (fun cdv A' outer s H vs Q E hr h => ?_)
  have nd := sc__law_small_rows.nd
  exact ⟨_, (pss_cons (ps_asg (pe_call C__law_size.ok (hr.mono (by decide)) rfl C__law_size.mgx C__law_size.kp C__law_size.bd .nil pass0 (pa_cons (pv 0) (pa_cons (pv 1) pa_nil))) (k_gtup (K := K) rfl rfl (pgs_cons (pg_name (i := 2) nd rfl (by first | exact Or.inl rfl | exact Or.inr rfl)) (pgs_cons (pg_name (i := 3) nd rfl (by first | exact Or.inl rfl | exact Or.inr rfl)) pgs_nil))))
      (pss_one (ps_ret (pe_call C__law_rows.ok (hr.mono (by decide)) rfl C__law_rows.mgx C__law_rows.kp C__law_rows.bd .nil pass0 (pa_cons (pv 0) (pa_cons (pv 2) (pa_cons (pv 3) pa_nil))))))),
    body_Y (W := WF) ((sx_seq (sx_asg (vs := [2, 3]) (ex_callY (i := 0) (ea_cons (ex_var (i := 1)) ea_nil)) (eg_pair (by simp) (by simp)) (by first | exact .inl (by decide) | exact .inr rfl))
      (sx_ret (ex_callY (i := 0) (ea_cons (ex_var (i := 2)) (ea_cons (ex_var (i := 3)) ea_nil)))))) (arY_sp h)⟩
abbrev s__law_of : Stmt := top 22
theorem sc__law_of : FnScope ["_law_pot_here", "_law_some"] ["_law_pot_here", "_law_some"] (defScope s__law_of) := ⟨rfl, rfl, rfl, by decide +kernel, rfl, by decide +kernel, by decide +kernel⟩
theorem ok__law_of {f : Addr} {fd : FuncData} (F : Fun K "_law_of" "_law_of" s__law_of f fd) (T : Txt K mg A) {f__law_take : Addr} {fx__law_take : FuncData} (C__law_take : Cal P w K mg base CX0 1 "_law_take" f__law_take fx__law_take ["_law_pot_here", "_law_upto"] (spY (m__law_take A))) : FnOk P w K mg base CX0 2 f fd ["_law_pot_here", "_law_some"] (spY (m__law_of A)) := by
  refine F.ok (k := 1) sc__law_of (fun vs H Q E h => len_Y (fun ms ds r e => arY_len e) h) (fun cdv A' outer s H vs Q E hr h => ?_)
  have nd := sc__law_of.nd
  exact ⟨_, (pss_one (ps_ret (pe_ix (k_ix (K := K) rfl) (pv 1) (pe_call C__law_take.ok (hr.mono (by decide)) rfl C__law_take.mgx C__law_take.kp C__law_take.bd .nil pass0 (pa_cons (pv 0) (pa_cons (pe_callB (k_len (K := K) rfl) (by rfl) T.b_len (by decide +kernel) (pa_cons (pv 1) pa_nil)) pa_nil))) (fun _ _ => rfl)))),
    body_Y (W := WF) ((sx_ret (ex_ixN (i := 1) (ex_callY (i := 0) (ea_cons (ex_lenN (i := 1)) ea_nil))))) (arY_sp h)⟩
abbrev s__law_odd : Stmt := top 27
theorem sc__law_odd : FnScope ["_law_pot_here", "_law_some"] ["_law_pot_here"] (defScope s__law_odd) := ⟨rfl, rfl, rfl, by decide +kernel, rfl, by decide +kernel, by decide +kernel⟩
theorem ok__law_odd {f : Addr} {fd : FuncData} (F : Fun K "_law_odd" "_law_odd" s__law_odd f fd) (T : Txt K mg A) {f__law_of : Addr} {fx__law_of : FuncData} (C__law_of : Cal P w K mg base CX0 2 "_law_of" f__law_of fx__law_of ["_law_pot_here", "_law_some"] (spY (m__law_of A))) : FnOk P w K mg base CX0 3 f fd ["_law_pot_here"] (spY (m__law_odd A)) := by
  refine F.ok (k := 2) sc__law_odd (fun vs H Q E h => len_Y (fun ms ds r e => arY_len e) h) (fun cdv A' outer s H vs Q E hr h => ?_)
  have nd := sc__law_odd.nd
  exact ⟨_, (pss_cons (ps_set (i := 1) nd rfl (by first | exact Or.inl rfl | exact Or.inr rfl) (pe_lst (pa_cons pe_non (pa_cons pe_bl (pa_cons pe_bl (pa_cons pe_int (pa_cons pe_int (pa_cons (pe_un un_neg pe_int) (pa_cons pe_int (pa_cons pe_str (pa_cons pe_str (pa_cons pe_str (pa_cons pe_str (pa_cons pe_str (pa_cons (pe_tup pa_nil) (pa_cons (pe_lst pa_nil) (pa_cons pe_dnewK (pa_cons (pe_tup (pa_cons (pe_tup pa_nil) pa_nil)) (pa_cons (pe_tup (pa_cons pe_int pa_nil)) (pa_cons (pe_lst (pa_cons pe_int pa_nil)) (pa_cons (pe_tup (pa_cons pe_str pa_nil)) (pa_cons (pe_tup (pa_cons pe_bl pa_nil)) pa_nil))))))))))))))))))))))
      (pss_one (ps_ret (pe_call C__law_of.ok (hr.mono (by decide)) rfl C__law_of.mgx C__law_of.kp C__law_of.bd .nil pass0 (pa_cons (pv 0) (pa_cons (pe_op (k_addU (K := K) rfl) (pv 1) (pe_lst (pa_cons (pe_tup (pa_cons (pe_tup (pa_cons pe_int (pa_cons pe_int pa_nil))) pa_nil)) (pa_cons (pe_tup (pa_cons pe_str (pa_cons pe_int pa_nil))) (pa_cons pe_dis1 (pa_cons pe_str (pa_cons (pe_tup (pa_cons pe_int (pa_cons pe_int (pa_cons pe_int pa_nil)))) (pa_cons (pe_tup (pa_cons (pe_tup (pa_cons pe_int (pa_cons pe_int pa_nil))) (pa_cons (pe_tup (pa_cons pe_int (pa_cons pe_int pa_nil))) pa_nil))) (pa_cons (pe_op op_powW pe_int pe_int) pa_nil))))))))) pa_nil)))))),
    body_Y (W := WF) ((sx_seq (sx_set (i := 1) (ex_lst (ea_cons ex_non (ea_cons ex_bl (ea_cons ex_bl (ea_cons ex_int (ea_cons ex_int (ea_cons (ex_un (f := negF) (fun _ _ h => f_neg h) ex_int) (ea_cons ex_int (ea_cons ex_str (ea_cons ex_str (ea_cons ex_str (ea_cons ex_str (ea_cons ex_str (ea_cons (ex_tup ea_nil) (ea_cons (ex_lst ea_nil) (ea_cons ex_dic (ea_cons (ex_tup (ea_cons (ex_tup ea_nil) ea_nil)) (ea_cons (ex_tup (ea_cons ex_int ea_nil)) (ea_cons (ex_lst (ea_cons ex_int ea_nil)) (ea_cons (ex_tup (ea_cons ex_str ea_nil)) (ea_cons (ex_tup (ea_cons ex_bl ea_nil)) ea_nil))))))))))))))))))))) (by first | exact .inl (by decide) | exact .inr rfl))
      (sx_ret (ex_callY (i := 0) (ea_cons (ex_op (f := addF) (fun _ _ _ h => f_add h) (ex_var (i := 1)) (ex_lst (ea_cons (ex_tup (ea_cons (ex_tup (ea_cons ex_int (ea_cons ex_int ea_nil))) ea_nil)) (ea_cons (ex_tup (ea_cons ex_str (ea_cons ex_int ea_nil))) (ea_cons ex_dis1 (ea_cons ex_str (ea_cons (ex_tup (ea_cons ex_int (ea_cons ex_int (ea_cons ex_int ea_nil)))) (ea_cons (ex_tup (ea_cons (ex_tup (ea_cons ex_int (ea_cons ex_int ea_nil))) (ea_cons (ex_tup (ea_cons ex_int (ea_cons ex_int ea_nil))) ea_nil))) (ea_cons (ex_op (f := powF) (fun _ _ _ h => f_pow h) ex_int ex_int) ea_nil))))))))) ea_nil))))) (arY_sp h)⟩
abbrev s__law_spoilt : Stmt := top 28
theorem sc__law_spoilt : FnScope ["_law_pot_here", "_law_value", "_law_at", "_law_some"] ["_law_pot_here", "_law_value"] (defScope s__law_spoilt) := ⟨rfl, rfl, rfl, by decide +kernel, rfl, by decide +kernel, by decide +kernel⟩
theorem ok__law_spoilt {f : Addr} {fd : FuncData} (F : Fun K "_law_spoilt" "_law_spoilt" s__law_spoilt f fd) (T : Txt K mg A) {f__law_take : Addr} {fx__law_take : FuncData} (C__law_take : Cal P w K mg base CX0 1 "_law_take" f__law_take fx__law_take ["_law_pot_here", "_law_upto"] (spY (m__law_take A))) {f__law_odd : Addr} {fx__law_odd : FuncData} (C__law_odd : Cal P w K mg base CX0 3 "_law_odd" f__law_odd fx__law_odd ["_law_pot_here"] (spY (m__law_odd A))) {f__law_of : Addr} {fx__law_of : FuncData} (C__law_of : Cal P w K mg base CX0 2 "_law_of" f__law_of fx__law_of ["_law_pot_here", "_law_some"] (spY (m__law_of A))) : FnOk P w K mg base CX0 4 f fd ["_law_pot_here", "_law_value"] (spY (m__law_spoilt A)) := by
  refine F.ok (k := 3) sc__law_spoilt (fun vs H Q E h => len_Y (fun ms ds r e => arY_len e) h) (fun cdv A' outer s H vs Q E hr h => ?_)
  have nd := sc__law_spoilt.nd
  exact ⟨_, (pss_cons (ps_set (i := 2) nd rfl (by first | exact Or.inl rfl | exact Or.inr rfl) (pe_call C__law_take.ok (hr.mono (by decide)) rfl C__law_take.mgx C__law_take.kp C__law_take.bd .nil pass0 (pa_cons (pv 0) (pa_cons (pe_op (k_addU (K := K) rfl) (pe_callB (k_len (K := K) rfl) (by rfl) T.b_len (by decide +kernel) (pa_cons (pv 1) pa_nil)) pe_int) pa_nil))))
      (pss_cons (ps_set (i := 3) nd rfl (by first | exact Or.inl rfl | exact Or.inr rfl) (pe_lst (pa_cons (pe_callTy (k_list (K := K) rfl) (by rfl) T.b_list (by decide +kernel) (pa_cons (pv 1) pa_nil)) (pa_cons (pe_revT (pv 1)) (pa_cons (pe_op (k_addU (K := K) rfl) (pe_slice (k_slU (K := K) rfl) (pv 1) po_none (po_some (pv 2))) (pe_slice (k_slU (K := K) rfl) (pv 1) (po_some (pe_op (k_addU (K := K) rfl) (pv 2) pe_int)) po_none)) (pa_cons (pe_op (k_addU (K := K) rfl) (pe_op (k_addU (K := K) rfl) (pe_slice (k_slU (K := K) rfl) (pv 1) po_none (po_some (pv 2))) (pe_slice (k_slU (K := K) rfl) (pv 1) (po_some (pv 2)) (po_some (pe_op (k_addU (K := K) rfl) (pv 2) pe_int)))) (pe_slice (k_slU (K := K) rfl) (pv 1) (po_some (pv 2)) po_none)) pa_nil))))))
      (pss_cons (ps_expr (pe_bm PySem.F.plainAttrs_list PySem.F.slot_list_append PySem.F.type_list_append mt_append (pv 3) (pa_cons (pe_op (k_addU (K := K) rfl) (pe_op (k_addU (K := K) rfl) (pe_slice (k_slU (K := K) rfl) (pv 1) po_none (po_some (pv 2))) (pe_tup (pa_cons (pe_call C__law_odd.ok (hr.mono (by decide)) rfl C__law_odd.mgx C__law_odd.kp C__law_odd.bd .nil pass0 (pa_cons (pv 0) pa_nil)) pa_nil))) (pe_slice (k_slU (K := K) rfl) (pv 1) (po_some (pv 2)) po_none)) pa_nil)))
      (pss_one (ps_ret (pe_call C__law_of.ok (hr.mono (by decide)) rfl C__law_of.mgx C__law_of.kp C__law_of.bd .nil pass0 (pa_cons (pv 0) (pa_cons (pe_op (k_addU (K := K) rfl) (pv 3) (pe_lst (pa_cons (pe_op (k_addU (K := K) rfl) (pe_op (k_addU (K := K) rfl) (pe_slice (k_slU (K := K) rfl) (pv 1) po_none (po_some (pv 2))) (pe_tup (pa_cons (pe_call C__law_odd.ok (hr.mono (by decide)) rfl C__law_odd.mgx C__law_odd.kp C__law_odd.bd .nil pass0 (pa_cons (pv 0) pa_nil)) pa_nil))) (pe_slice (k_slU (K := K) rfl) (pv 1) (po_some (pe_op (k_addU (K := K) rfl) (pv 2) pe_int)) po_none)) pa_nil))) pa_nil)))))))),
    body_Y (W := WF) ((sx_seq (sx_set (i := 2) (ex_callY (i := 0) (ea_cons (ex_op (f := addF) (fun _ _ _ h => f_add h) (ex_lenN (i := 1)) ex_int) ea_nil)) (by first | exact .inl (by decide) | exact .inr rfl))
      (sx_seq (sx_new (i := 3) (ea_cons (ex_tcb (f := listF) (fun _ _ h => f_list h) (ea_cons (ex_var (i := 1)) ea_nil)) (ea_cons (ex_rev (ex_var (i := 1))) (ea_cons (ex_op (f := addF) (fun _ _ _ h => f_add h) (ex_sl (ex_var (i := 1)) eo_none (eo_some (ex_var (i := 2)))) (ex_sl (ex_var (i := 1)) (eo_some (ex_op (f := addF) (fun _ _ _ h => f_add h) (ex_var (i := 2)) ex_int)) eo_none)) (ea_cons (ex_op (f := addF) (fun _ _ _ h => f_add h) (ex_op (f := addF) (fun _ _ _ h => f_add h) (ex_sl (ex_var (i := 1)) eo_none (eo_some (ex_var (i := 2)))) (ex_sl (ex_var (i := 1)) (eo_some (ex_var (i := 2))) (eo_some (ex_op (f := addF) (fun _ _ _ h => f_add h) (ex_var (i := 2)) ex_int)))) (ex_sl (ex_var (i := 1)) (eo_some (ex_var (i := 2))) eo_none)) ea_nil)))) (by first | exact .inl (by decide) | exact .inr rfl))
      (sx_seq (sx_app (i := 3) (ex_op (f := addF) (fun _ _ _ h => f_add h) (ex_op (f := addF) (fun _ _ _ h => f_add h) (ex_sl (ex_var (i := 1)) eo_none (eo_some (ex_var (i := 2)))) (ex_tup (ea_cons (ex_callY (i := 0) ea_nil) ea_nil))) (ex_sl (ex_var (i := 1)) (eo_some (ex_var (i := 2))) eo_none)))
      (sx_ret (ex_callY (i := 0) (ea_cons (ex_op (f := addF) (fun _ _ _ h => f_add h) (ex_var (i := 3)) (ex_lst (ea_cons (ex_op (f := addF) (fun _ _ _ h => f_add h) (ex_op (f := addF) (fun _ _ _ h => f_add h) (ex_sl (ex_var (i := 1)) eo_none (eo_some (ex_var (i := 2)))) (ex_tup (ea_cons (ex_callY (i := 0) ea_nil) ea_nil))) (ex_sl (ex_var (i := 1)) (eo_some (ex_op (f := addF) (fun _ _ _ h => f_add h) (ex_var (i := 2)) ex_int)) eo_none)) ea_nil))) ea_nil))))))) (arY_sp h)⟩
abbrev s__law_bent_rows : Stmt := top 30
theorem sc__law_bent_rows : FnScope ["_law_pot_here", "_law_rows_here", "_law_at", "_law_way", "_law_row", "_law_spot", "_law_sign", "_law_other", "_law_one"] ["_law_pot_here", "_law_rows_here"] (defScope s__law_bent_rows) := ⟨rfl, rfl, rfl, by decide +kernel, rfl, by decide +kernel, by decide +kernel⟩
theorem ok__law_bent_rows {f : Addr} {fd : FuncData} (F : Fun K "_law_bent_rows" "_law_bent_rows" s__law_bent_rows f fd) (T : Txt K mg A) {f__law_take : Addr} {fx__law_take : FuncData} (C__law_take : Cal P w K mg base CX0 1 "_law_take" f__law_take fx__law_take ["_law_pot_here", "_law_upto"] (spY (m__law_take A))) {f__law_spoilt : Addr} {fx__law_spoilt : FuncData} (C__law_spoilt : Cal P w K mg base CX0 4 "_law_spoilt" f__law_spoilt fx__law_spoilt ["_law_pot_here", "_law_value"] (spY (m__law_spoilt A))) {f__law_of : Addr} {fx__law_of : FuncData} (C__law_of : Cal P w K mg base CX0 2 "_law_of" f__law_of fx__law_of ["_law_pot_here", "_law_some"] (spY (m__law_of A))) : FnOk P w K mg base CX0 5 f fd ["_law_pot_here", "_law_rows_here"] (spY (m__law_bent_rows A)) := by
  refine F.ok (k := 4) sc__law_bent_rows (fun vs H Q E h => len_Y (fun ms ds r e => arY_len e) h) (fun cdv A' outer s H vs Q E hr h => ?_)
  have nd := sc__law_bent_rows.nd
  exact ⟨_, (pss_cons (ps_par (i := 2) (j := 3) (by rfl) nd rfl rfl (by decide) rfl rfl (pa_cons (pe_call C__law_take.ok (hr.mono (by decide)) rfl C__law_take.mgx C__law_take.kp C__law_take.bd .nil pass0 (pa_cons (pv 0) (pa_cons (pe_callB (k_len (K := K) rfl) (by rfl) T.b_len (by decide +kernel) (pa_cons (pv 1) pa_nil)) pa_nil))) (pa_cons (pe_call C__law_take.ok (hr.mono (by decide)) rfl C__law_take.mgx C__law_take.kp C__law_take.bd .nil pass0 (pa_cons (pv 0) (pa_cons pe_int pa_nil))) pa_nil)) (by rfl))
      (pss_cons (ps_set (i := 4) nd rfl (by first | exact Or.inl rfl | exact Or.inr rfl) (pe_ifExp (pt_val (pe_callB (k_isU (K := K) rfl) (by rfl) T.b_isinstance (by decide +kernel) (pa_cons (pe_ix (k_ix (K := K) rfl) (pv 1) (pv 2) (fun _ _ => rfl)) (pa_cons (pe_bltn (v := .ty "str") (by rfl) T.b_str (by decide +kernel) rfl) pa_nil)))) (pe_ix (k_ix (K := K) rfl) (pv 1) (pv 2) (fun _ _ => rfl)) pe_str))
      (pss_cons (ps_set (i := 5) nd rfl (by first | exact Or.inl rfl | exact Or.inr rfl) (pe_call C__law_take.ok (hr.mono (by decide)) rfl C__law_take.mgx C__law_take.kp C__law_take.bd .nil pass0 (pa_cons (pv 0) (pa_cons (pe_op (k_addU (K := K) rfl) (pe_callB (k_len (K := K) rfl) (by rfl) T.b_len (by decide +kernel) (pa_cons (pv 4) pa_nil)) pe_int) pa_nil))))
      (pss_cons (ps_if (pt_cmpR (k_eqX (K := K) rfl hr.units) (pv 3) pe_int (nomark _)) (pss_one (ps_ret (pe_call C__law_spoilt.ok (hr.mono (by decide)) rfl C__law_spoilt.mgx C__law_spoilt.kp C__law_spoilt.bd .nil pass0 (pa_cons (pv 0) (pa_cons (pv 1) pa_nil))))) pss_nil)
      (pss_cons (ps_if (pt_cmpR (k_eqX (K := K) rfl hr.units) (pv 3) pe_int (nomark _)) (pss_one (ps_ret (pe_op (k_addU (K := K) rfl) (pe_op (k_addU (K := K) rfl) (pe_slice (k_slU (K := K) rfl) (pv 1) po_none (po_some (pv 2))) (pe_tup (pa_cons (pe_op (k_mulX (K := K) rfl) pe_str (pe_callB (k_len (K := K) rfl) (by rfl) T.b_len (by decide +kernel) (pa_cons (pv 4) pa_nil))) pa_nil))) (pe_slice (k_slU (K := K) rfl) (pv 1) (po_some (pe_op (k_addU (K := K) rfl) (pv 2) pe_int)) po_none)))) pss_nil)
      (pss_cons (ps_if (pt_cmpR (k_eqX (K := K) rfl hr.units) (pv 3) pe_int (nomark _)) (pss_one (ps_ret (pe_callTy (k_tuple (K := K) rfl) (by rfl) T.b_tuple (by decide +kernel) (pa_cons (pe_lc (own := [("_law_one", 8)]) (g := (gName 8)) rfl nd (k_pit (K := K) rfl (pv 1)) (blkOk_by (own := [("_law_one", 8)]) (by kernel_rfl)) (fun _ _ _ _ _ => (pg_name (i := 8) nd rfl (by first | exact Or.inl rfl | exact Or.inr rfl))) (fun _ _ _ _ _ => pts_nil) (fun _ _ _ _ _ => (pe_ifExp (pt_val (pe_callB (k_isU (K := K) rfl) (by rfl) T.b_isinstance (by decide +kernel) (pa_cons (pv 8) (pa_cons (pe_bltn (v := .ty "str") (by rfl) T.b_str (by decide +kernel) rfl) pa_nil)))) (pe_op (k_addU (K := K) rfl) (pe_slice (k_slU (K := K) rfl) (pv 8) po_none (po_some (pv 5))) (pe_slice (k_slU (K := K) rfl) (pv 8) (po_some (pe_op (k_addU (K := K) rfl) (pv 5) pe_int)) po_none)) (pv 8)))) pa_nil)))) pss_nil)
      (pss_cons (ps_if (pt_cmpR (k_eqX (K := K) rfl hr.units) (pv 3) pe_int (nomark _)) (pss_one (ps_ret (pe_callTy (k_tuple (K := K) rfl) (by rfl) T.b_tuple (by decide +kernel) (pa_cons (pe_lc (own := [("_law_one", 8)]) (g := (gName 8)) rfl nd (k_pit (K := K) rfl (pv 1)) (blkOk_by (own := [("_law_one", 8)]) (by kernel_rfl)) (fun _ _ _ _ _ => (pg_name (i := 8) nd rfl (by first | exact Or.inl rfl | exact Or.inr rfl))) (fun _ _ _ _ _ => pts_nil) (fun _ _ _ _ _ => (pe_ifExp (pt_val (pe_callB (k_isU (K := K) rfl) (by rfl) T.b_isinstance (by decide +kernel) (pa_cons (pv 8) (pa_cons (pe_bltn (v := .ty "str") (by rfl) T.b_str (by decide +kernel) rfl) pa_nil)))) (pe_op (k_addU (K := K) rfl) (pe_op (k_addU (K := K) rfl) (pe_slice (k_slU (K := K) rfl) (pv 8) po_none (po_some (pv 5))) pe_str) (pe_slice (k_slU (K := K) rfl) (pv 8) (po_some (pe_op (k_addU (K := K) rfl) (pv 5) pe_int)) po_none)) (pv 8)))) pa_nil)))) pss_nil)
      (pss_cons (ps_set (i := 6) nd rfl (by first | exact Or.inl rfl | exact Or.inr rfl) (pe_call C__law_of.ok (hr.mono (by decide)) rfl C__law_of.mgx C__law_of.kp C__law_of.bd .nil pass0 (pa_cons (pv 0) (pa_cons (pe_lst (pa_cons pe_str (pa_cons pe_str (pa_cons pe_str (pa_cons pe_str (pa_cons pe_str (pa_cons pe_str (pa_cons pe_str pa_nil)))))))) pa_nil))))
      (pss_cons (ps_set (i := 7) nd rfl (by first | exact Or.inl rfl | exact Or.inr rfl) (pe_op (k_addU (K := K) rfl) (pe_op (k_addU (K := K) rfl) (pe_slice (k_slU (K := K) rfl) (pv 4) po_none (po_some (pv 5))) (pv 6)) (pe_slice (k_slU (K := K) rfl) (pv 4) (po_some (pe_op (k_addU (K := K) rfl) (pv 5) (pe_callTy call_intK (by rfl) T.b_int (by decide +kernel) (pa_cons (pe_cmpR (k_eqX (K := K) rfl hr.units) (pv 3) pe_int (nomark _)) pa_nil)))) po_none)))
      (pss_one (ps_ret (pe_op (k_addU (K := K) rfl) (pe_op (k_addU (K := K) rfl) (pe_slice (k_slU (K := K) rfl) (pv 1) po_none (po_some (pv 2))) (pe_tup (pa_cons (pv 7) pa_nil))) (pe_slice (k_slU (K := K) rfl) (pv 1) (po_some (pe_op (k_addU (K := K) rfl) (pv 2) pe_int)) po_none))))))))))))),
    body_Y (W := WF) ((sx_seq (sx_par (i := 2) (j := 3) (ea_cons (ex_callY (i := 0) (ea_cons (ex_lenN (i := 1)) ea_nil)) (ea_cons (ex_callY (i := 0) (ea_cons ex_int ea_nil)) ea_nil)) (by first | exact .inl (by decide) | exact .inr rfl) (by first | exact .inl (by decide) | exact .inr rfl))
      (sx_seq (sx_set (i := 4) (ex_if (et_B (ex_isi (.ty "str") T.is_str (ex_ixN (i := 1) (ex_var (i := 2))))) (ex_ixN (i := 1) (ex_var (i := 2))) ex_str) (by first | exact .inl (by decide) | exact .inr rfl))
      (sx_seq (sx_set (i := 5) (ex_callY (i := 0) (ea_cons (ex_op (f := addF) (fun _ _ _ h => f_add h) (ex_lenN (i := 4)) ex_int) ea_nil)) (by first | exact .inl (by decide) | exact .inr rfl))
      (sx_seq (sx_if (et_test (ex_op (f := eqX) (fun _ _ _ h => f_eqX h) (ex_var (i := 3)) ex_int)) (sx_ret (ex_callY (i := 0) (ea_cons (ex_var (i := 1)) ea_nil))) sx_next)
      (sx_seq (sx_if (et_test (ex_op (f := eqX) (fun _ _ _ h => f_eqX h) (ex_var (i := 3)) ex_int)) (sx_ret (ex_op (f := addF) (fun _ _ _ h => f_add h) (ex_op (f := addF) (fun _ _ _ h => f_add h) (ex_sl (ex_var (i := 1)) eo_none (eo_some (ex_var (i := 2)))) (ex_tup (ea_cons (ex_op (f := mulX) (fun _ _ _ h => f_mulX h) ex_str (ex_lenN (i := 4))) ea_nil))) (ex_sl (ex_var (i := 1)) (eo_some (ex_op (f := addF) (fun _ _ _ h => f_add h) (ex_var (i := 2)) ex_int)) eo_none))) sx_next)
      (sx_seq (sx_if (et_test (ex_op (f := eqX) (fun _ _ _ h => f_eqX h) (ex_var (i := 3)) ex_int)) (sx_ret (ex_tcb (f := tupF) (fun _ _ h => f_tup h) (ea_cons (ex_lc (W0 := WF) (vs := [8]) (ei_tup (ex_var (i := 1))) (eg_name (by simp)) et_yes (ex_if (et_B (ex_isi (.ty "str") T.is_str (ex_var (i := 8)))) (ex_op (f := addF) (fun _ _ _ h => f_add h) (ex_sl (ex_var (i := 8)) eo_none (eo_some (ex_var (i := 5)))) (ex_sl (ex_var (i := 8)) (eo_some (ex_op (f := addF) (fun _ _ _ h => f_add h) (ex_var (i := 5)) ex_int)) eo_none)) (ex_var (i := 8)))) ea_nil))) sx_next)
      (sx_seq (sx_if (et_test (ex_op (f := eqX) (fun _ _ _ h => f_eqX h) (ex_var (i := 3)) ex_int)) (sx_ret (ex_tcb (f := tupF) (fun _ _ h => f_tup h) (ea_cons (ex_lc (W0 := WF) (vs := [8]) (ei_tup (ex_var (i := 1))) (eg_name (by simp)) et_yes (ex_if (et_B (ex_isi (.ty "str") T.is_str (ex_var (i := 8)))) (ex_op (f := addF) (fun _ _ _ h => f_add h) (ex_op (f := addF) (fun _ _ _ h => f_add h) (ex_sl (ex_var (i := 8)) eo_none (eo_some (ex_var (i := 5)))) ex_str) (ex_sl (ex_var (i := 8)) (eo_some (ex_op (f := addF) (fun _ _ _ h => f_add h) (ex_var (i := 5)) ex_int)) eo_none)) (ex_var (i := 8)))) ea_nil))) sx_next)
      (sx_seq (sx_set (i := 6) (ex_callY (i := 0) (ea_cons (ex_lst (ea_cons ex_str (ea_cons ex_str (ea_cons ex_str (ea_cons ex_str (ea_cons ex_str (ea_cons ex_str (ea_cons ex_str ea_nil)))))))) ea_nil)) (by first | exact .inl (by decide) | exact .inr rfl))
      (sx_seq (sx_set (i := 7) (ex_op (f := addF) (fun _ _ _ h => f_add h) (ex_op (f := addF) (fun _ _ _ h => f_add h) (ex_sl (ex_var (i := 4)) eo_none (eo_some (ex_var (i := 5)))) (ex_var (i := 6))) (ex_sl (ex_var (i := 4)) (eo_some (ex_op (f := addF) (fun _ _ _ h => f_add h) (ex_var (i := 5)) (ex_tcb (f := intF) (fun _ _ h => f_int h) (ea_cons (ex_op (f := eqX) (fun _ _ _ h => f_eqX h) (ex_var (i := 3)) ex_int) ea_nil)))) eo_none)) (by first | exact .inl (by decide) | exact .inr rfl))
      (sx_ret (ex_op (f := addF) (fun _ _ _ h => f_add h) (ex_op (f := addF) (fun _ _ _ h => f_add h) (ex_sl (ex_var (i := 1)) eo_none (eo_some (ex_var (i := 2)))) (ex_tup (ea_cons (ex_var (i := 7)) ea_nil))) (ex_sl (ex_var (i := 1)) (eo_some (ex_op (f := addF) (fun _ _ _ h => f_add h) (ex_var (i := 2)) ex_int)) eo_none))))))))))))) (arY_sp h)⟩
abbrev s__law_refusal : Stmt := top 26
theorem sc__law_refusal : FnScope ["_law_look", "_law_caught", "error"] ["_law_look"] (defScope s__law_refusal) := ⟨rfl, rfl, rfl, by decide +kernel, rfl, by decide +kernel, by decide +kernel⟩
abbrev s__none_is_empty : Stmt := top 15
theorem sc__none_is_empty : FnScope ["rows", "row"] ["rows"] (defScope s__none_is_empty) := ⟨rfl, rfl, rfl, by decide +kernel, rfl, by decide +kernel, by decide +kernel⟩
theorem ok__none_is_empty {f : Addr} {fd : FuncData} (F : Fun K "_none_is_empty" "_none_is_empty" s__none_is_empty f fd) (T : Txt K mg A) : FnOk P w K mg base CX0 1 f fd ["rows"] (spX (m__none_is_empty A)) := by
  refine F.ok (k := 0) sc__none_is_empty (fun vs H Q E h => len_X (fun ds r e => arX_len e) h) (fun cdv A' outer s H vs Q E hr h => ?_)
  have nd := sc__none_is_empty.nd
  exact ⟨_, (pss_one (ps_ret (pe_callB (k_all (K := K) rfl rfl) (by rfl) T.b_all (by decide +kernel) (pa_cons (pe_lc (own := [("row", 1)]) (g := (gName 1)) rfl nd (k_pit (K := K) rfl (pv 0)) (blkOk_by (own := [("row", 1)]) (by kernel_rfl)) (fun _ _ _ _ _ => (pg_name (i := 1) nd rfl (by first | exact Or.inl rfl | exact Or.inr rfl))) (fun _ _ _ _ _ => pts_nil) (fun _ _ _ _ _ => (pe_cmpR (k_inU (K := K) rfl (hr65 hr)) (pe_glob (v := .str "o") rfl T.g_DOT.choose_spec ⟨_, rfl⟩) (pv 1) (by rfl)))) pa_nil)))),
    body_X (W := fun c d _ H => E c d H) ((sx_ret (ex_tcb (f := allF) (fun _ _ h => f_all h) (ea_cons (ex_lc (W0 := WF) (vs := [1]) (ei_tup (ex_var (i := 0))) (eg_name (by simp)) et_yes (ex_op (f := inF) (fun _ _ _ h => f_in h) (ex_giv fun _ => .str _) (ex_var (i := 1)))) ea_nil)))) (fun _ _ _ _ z => z) (fun _ _ _ _ z => z) (arX_sp h)⟩
abbrev s__turned : Stmt := top 14
theorem sc__turned : FnScope ["rows", "column", "row"] ["rows"] (defScope s__turned) := ⟨rfl, rfl, rfl, by decide +kernel, rfl, by decide +kernel, by decide +kernel⟩
theorem ok__turned {f : Addr} {fd : FuncData} (F : Fun K "_turned" "_turned" s__turned f fd) (T : Txt K mg A) : FnOk P w K mg base CX0 1 f fd ["rows"] (spX (m__turned A)) := by
  refine F.ok (k := 0) sc__turned (fun vs H Q E h => len_X (fun ds r e => arX_len e) h) (fun cdv A' outer s H vs Q E hr h => ?_)
  have nd := sc__turned.nd
  exact ⟨_, (pss_one (ps_ret (pe_callTy (k_tuple (K := K) rfl) (by rfl) T.b_tuple (by decide +kernel) (pa_cons (pe_lc (own := [("column", 1)]) (g := (gName 1)) rfl nd (pi_range1 (by rfl) T.b_range (pa_cons (pe_callB (k_len (K := K) rfl) (by rfl) T.b_len (by decide +kernel) (pa_cons (pe_ix (k_ix (K := K) rfl) (pv 0) pe_int (fun _ _ => rfl)) pa_nil)) pa_nil)) (blkOk_by (own := [("column", 1)]) (by kernel_rfl)) (fun _ _ _ _ _ => (pg_name (i := 1) nd rfl (by first | exact Or.inl rfl | exact Or.inr rfl))) (fun _ _ _ _ _ => pts_nil) (fun _ _ _ _ _ => (k_join (K := K) rfl pe_str (pe_lc (own := [("row", 2)]) (g := (gName 2)) rfl nd (k_pit (K := K) rfl (pv 0)) (blkOk_by (own := [("row", 2)]) (by kernel_rfl)) (fun _ _ _ _ _ => (pg_name (i := 2) nd rfl (by first | exact Or.inl rfl | exact Or.inr rfl))) (fun _ _ _ _ _ => pts_nil) (fun _ _ _ _ _ => (pe_ix (k_ix (K := K) rfl) (pv 2) (pv 1) (fun _ _ => rfl))))))) pa_nil)))),
    body_X (W := fun c d _ H => E c d H) ((sx_ret (ex_tcb (f := tupF) (fun _ _ h => f_tup h) (ea_cons (ex_lc (W0 := WF) (vs := [1]) (ei_rng1 (ea_cons (ex_tcb (f := lenF) (fun _ _ h => f_len h) (ea_cons (ex_ixN (i := 0) ex_int) ea_nil)) ea_nil)) (eg_name (by simp)) et_yes (ex_join ex_str (ex_lc (W0 := WF) (vs := [2]) (ei_tup (ex_var (i := 0))) (eg_name (by simp)) et_yes (ex_ixN (i := 2) (ex_var (i := 1)))))) ea_nil)))) (fun _ _ _ _ z => z) (fun _ _ _ _ z => z) (arX_sp h)⟩
abbrev s__is_row : Stmt := top 12
theorem sc__is_row : FnScope ["value", "sign"] ["value"] (defScope s__is_row) := ⟨rfl, rfl, rfl, by decide +kernel, rfl, by decide +kernel, by decide +kernel⟩
theorem ok__is_row {f : Addr} {fd : FuncData} (F : Fun K "_is_row" "_is_row" s__is_row f fd) (T : Txt K mg A) : FnOk P w K mg base CX0 1 f fd ["value"] (spX (m__is_row A)) := by
  refine F.ok (k := 0) sc__is_row (fun vs H Q E h => len_X (fun ds r e => arX_len e) h) (fun cdv A' outer s H vs Q E hr h => ?_)
  have nd := sc__is_row.nd
  exact ⟨_, (pss_cons (ps_if (PW.pt (pw_or (pt_not (pt_val (pe_callB (k_isU (K := K) rfl) (by rfl) T.b_isinstance (by decide +kernel) (pa_cons (pv 0) (pa_cons (pe_bltn (v := .ty "str") (by rfl) T.b_str (by decide +kernel) rfl) pa_nil))))) (pw_or1 (pt_not (pt_chain op_le op_le pe_int (pe_callB (k_len (K := K) rfl) (by rfl) T.b_len (by decide +kernel) (pa_cons (pv 0) pa_nil)) (pe_glob (v := .int 10) rfl T.g_LONGEST.choose_spec ⟨_, rfl⟩)))))) (pss_one (ps_ret pe_bl)) pss_nil)
      (pss_one (ps_ret (pe_callB (k_all (K := K) rfl rfl) (by rfl) T.b_all (by decide +kernel) (pa_cons (pe_lc (own := [("sign", 1)]) (g := (gName 1)) rfl nd (pi_str (pv 0)) (blkOk_by (own := [("sign", 1)]) (by kernel_rfl)) (fun _ _ _ _ _ => (pg_name (i := 1) nd rfl (by first | exact Or.inl rfl | exact Or.inr rfl))) (fun _ _ _ _ _ => pts_nil) (fun _ _ _ _ _ => (pe_cmpR (k_inU (K := K) rfl (hr65 hr)) (pv 1) (pe_tup (pa_cons (pe_glob (v := .str "o") rfl T.g_DOT.choose_spec ⟨_, rfl⟩) (pa_cons (pe_glob (v := .str ".") rfl T.g_NO_DOT.choose_spec ⟨_, rfl⟩) pa_nil))) (by rfl)))) pa_nil))))),
    body_X (W := fun c d _ H => E c d H) ((sx_seq (sx_if (et_or (et_not (et_B (ex_isi (.ty "str") T.is_str (ex_var (i := 0))))) (et_not (et_test (ex_chain (f := leF) (g := leF) (fun _ _ _ h => f_le h) (fun _ _ _ h => f_le h) ex_int (ex_lenN (i := 0)) (ex_giv fun _ => .int _))))) (sx_ret ex_bl) sx_next)
      (sx_ret (ex_tcb (f := allF) (fun _ _ h => f_all h) (ea_cons (ex_lc (W0 := WF) (vs := [1]) (ei_str (ex_var (i := 0))) (eg_name (by simp)) et_yes (ex_op (f := inF) (fun _ _ _ h => f_in h) (ex_var (i := 1)) (ex_tup (ea_cons (ex_giv fun _ => .str _) (ea_cons (ex_giv fun _ => .str _) ea_nil))))) ea_nil))))) (fun _ _ _ _ z => z) (fun _ _ _ _ z => z) (arX_sp h)⟩
abbrev s__are_rows : Stmt := top 13
theorem sc__are_rows : FnScope ["value", "row"] ["value"] (defScope s__are_rows) := ⟨rfl, rfl, rfl, by decide +kernel, rfl, by decide +kernel, by decide +kernel⟩
theorem ok__are_rows {f : Addr} {fd : FuncData} (F : Fun K "_are_rows" "_are_rows" s__are_rows f fd) (T : Txt K mg A) {f__is_row : Addr} {fx__is_row : FuncData} (C__is_row : Cal P w K mg base CX0 1 "_is_row" f__is_row fx__is_row ["value"] (spX (m__is_row A))) : FnOk P w K mg base CX0 2 f fd ["value"] (spX (m__are_rows A)) := by
  refine F.ok (k := 1) sc__are_rows (fun vs H Q E h => len_X (fun ds r e => arX_len e) h) (fun cdv A' outer s H vs Q E hr h => ?_)
  have nd := sc__are_rows.nd
  exact ⟨_, (pss_cons (ps_if (PW.pt (pw_or (pt_not (pt_val (pe_callB (k_isU (K := K) rfl) (by rfl) T.b_isinstance (by decide +kernel) (pa_cons (pv 0) (pa_cons (pe_bltn (v := .ty "tuple") (by rfl) T.b_tuple (by decide +kernel) rfl) pa_nil))))) (pw_or1 (pt_not (pt_chain op_le op_le pe_int (pe_callB (k_len (K := K) rfl) (by rfl) T.b_len (by decide +kernel) (pa_cons (pv 0) pa_nil)) (pe_glob (v := .int 10) rfl T.g_LONGEST.choose_spec ⟨_, rfl⟩)))))) (pss_one (ps_ret pe_bl)) pss_nil)
      (pss_one (ps_ret (pe_and (pe_callB (k_all (K := K) rfl rfl) (by rfl) T.b_all (by decide +kernel) (pa_cons (pe_lc (own := [("row", 1)]) (g := (gName 1)) rfl nd (k_pit (K := K) rfl (pv 0)) (blkOk_by (own := [("row", 1)]) (by kernel_rfl)) (fun _ _ _ _ _ => (pg_name (i := 1) nd rfl (by first | exact Or.inl rfl | exact Or.inr rfl))) (fun _ _ _ _ _ => pts_nil) (fun _ _ _ _ _ => (pe_call C__is_row.ok (hr.mono (by decide)) rfl C__is_row.mgx C__is_row.kp C__is_row.bd .nil pass0 (pa_cons (pv 1) pa_nil)))) pa_nil)) (pe_one (pe_callB (k_all (K := K) rfl rfl) (by rfl) T.b_all (by decide +kernel) (pa_cons (pe_lc (own := [("row", 1)]) (g := (gName 1)) rfl nd (k_pit (K := K) rfl (pv 0)) (blkOk_by (own := [("row", 1)]) (by kernel_rfl)) (fun _ _ _ _ _ => (pg_name (i := 1) nd rfl (by first | exact Or.inl rfl | exact Or.inr rfl))) (fun _ _ _ _ _ => pts_nil) (fun _ _ _ _ _ => (pe_cmpR (k_eqX (K := K) rfl hr.units) (pe_callB (k_len (K := K) rfl) (by rfl) T.b_len (by decide +kernel) (pa_cons (pv 1) pa_nil)) (pe_callB (k_len (K := K) rfl) (by rfl) T.b_len (by decide +kernel) (pa_cons (pe_ix (k_ix (K := K) rfl) (pv 0) pe_int (fun _ _ => rfl)) pa_nil)) (nomark _)))) pa_nil))))))),
    body_X (W := fun c d _ H => E c d H) ((sx_seq (sx_if (et_or (et_not (et_B (ex_isi (.ty "tuple") T.is_tuple (ex_var (i := 0))))) (et_not (et_test (ex_chain (f := leF) (g := leF) (fun _ _ _ h => f_le h) (fun _ _ _ h => f_le h) ex_int (ex_lenN (i := 0)) (ex_giv fun _ => .int _))))) (sx_ret ex_bl) sx_next)
      (sx_ret (ex_andV (ex_tcb (f := allF) (fun _ _ h => f_all h) (ea_cons (ex_lc (W0 := WF) (vs := [1]) (ei_tup (ex_var (i := 0))) (eg_name (by simp)) et_yes (ex_call0 (ea_cons (ex_var (i := 1)) ea_nil))) ea_nil)) (ex_tcb (f := allF) (fun _ _ h => f_all h) (ea_cons (ex_lc (W0 := WF) (vs := [1]) (ei_tup (ex_var (i := 0))) (eg_name (by simp)) et_yes (ex_op (f := eqX) (fun _ _ _ h => f_eqX h) (ex_lenN (i := 1)) (ex_tcb (f := lenF) (fun _ _ h => f_len h) (ea_cons (ex_ixN (i := 0) ex_int) ea_nil)))) ea_nil)))))) (fun _ _ _ _ z => z) (fun _ _ _ _ z => z) (arX_sp h)⟩
abbrev s__dots_of : Stmt := top 16
theorem sc__dots_of : FnScope ["rows", "width", "row", "column"] ["rows"] (defScope s__dots_of) := ⟨rfl, rfl, rfl, by decide +kernel, rfl, by decide +kernel, by decide +kernel⟩
theorem ok__dots_of {f : Addr} {fd : FuncData} (F : Fun K "_dots_of" "_dots_of" s__dots_of f fd) (T : Txt K mg A) : FnOk P w K mg base CX0 1 f fd ["rows"] (spX (m__dots_of A)) := by
  refine F.ok (k := 0) sc__dots_of (fun vs H Q E h => len_X (fun ds r e => arX_len e) h) (fun cdv A' outer s H vs Q E hr h => ?_)
  have nd := sc__dots_of.nd
  exact ⟨_, (pss_cons (ps_set (i := 1) nd rfl (by first | exact Or.inl rfl | exact Or.inr rfl) (pe_callB (k_len (K := K) rfl) (by rfl) T.b_len (by decide +kernel) (pa_cons (pe_ix (k_ix (K := K) rfl) (pv 0) pe_int (fun _ _ => rfl)) pa_nil)))
      (pss_one (ps_ret (pe_callTy (k_tuple (K := K) rfl) (by rfl) T.b_tuple (by decide +kernel) (pa_cons (pe_lc2 (own := [("row", 2), ("column", 3)]) (g := (gName 2)) (g1 := (gName 3)) (vs1 := [3]) rfl nd (pi_range1 (by rfl) T.b_range (pa_cons (pe_callB (k_len (K := K) rfl) (by rfl) T.b_len (by decide +kernel) (pa_cons (pv 0) pa_nil)) pa_nil)) (blkOk_by (own := [("row", 2), ("column", 3)]) (by kernel_rfl)) (by decide) (fun _ _ _ _ _ => (pg_name (i := 2) nd rfl (by first | exact Or.inl rfl | exact Or.inr rfl))) (fun _ _ _ _ _ => pts_nil) (fun _ _ _ _ _ => (pi_range1 (by rfl) T.b_range (pa_cons (pv 1) pa_nil))) (fun _ _ _ _ _ => (pg_name (i := 3) nd rfl (by first | exact Or.inl rfl | exact Or.inr rfl))) (fun _ _ _ _ _ => (pts_one (pt_cmpR (k_eqX (K := K) rfl hr.units) (pe_ix (k_ix (K := K) rfl) (pe_ix (k_ix (K := K) rfl) (pv 0) (pv 2) (fun _ _ => rfl)) (pv 3) (fun _ _ => rfl)) (pe_glob (v := .str "o") rfl T.g_DOT.choose_spec ⟨_, rfl⟩) (nomark _)))) (fun _ _ _ _ _ => (pe_tup (pa_cons (pv 2) (pa_cons (pv 3) pa_nil))))) pa_nil))))),
    body_X (W := fun c d _ H => E c d H) ((sx_seq (sx_set (i := 1) (ex_tcb (f := lenF) (fun _ _ h => f_len h) (ea_cons (ex_ixN (i := 0) ex_int) ea_nil)) (by first | exact .inl (by decide) | exact .inr rfl))
      (sx_ret (ex_tcb (f := tupF) (fun _ _ h => f_tup h) (ea_cons (ex_lc2 (W0 := WF) (vs := [2, 3]) (vs1 := [3]) (by decide) (ei_rng1 (ea_cons (ex_lenN (i := 0)) ea_nil)) (eg_name (by simp)) (ei_rng1 (ea_cons (ex_var (i := 1)) ea_nil)) (eg_name (by simp)) (et_test (ex_op (f := eqX) (fun _ _ _ h => f_eqX h) (ex_op (f := ixF) (fun _ _ _ h => f_ix h) (ex_ixN (i := 0) (ex_var (i := 2))) (ex_var (i := 3))) (ex_giv fun _ => .str _))) (ex_tup (ea_cons (ex_var (i := 2)) (ea_cons (ex_var (i := 3)) ea_nil)))) ea_nil))))) (fun _ _ _ _ z => z) (fun _ _ _ _ z => z) (arX_sp h)⟩
abbrev s__wires_of : Stmt := top 17
theorem sc__wires_of : FnScope ["rows", "columns", "number"] ["rows"] (defScope s__wires_of) := ⟨rfl, rfl, rfl, by decide +kernel, rfl, by decide +kernel, by decide +kernel⟩
theorem ok__wires_of {f : Addr} {fd : FuncData} (F : Fun K "_wires_of" "_wires_of" s__wires_of f fd) (T : Txt K mg A) : FnOk P w K mg base CX0 1 f fd ["rows"] (spX (m__wires_of A)) := by
  refine F.ok (k := 0) sc__wires_of (fun vs H Q E h => len_X (fun ds r e => arX_len e) h) (fun cdv A' outer s H vs Q E hr h => ?_)
  have nd := sc__wires_of.nd
  exact ⟨_, (pss_cons (ps_setLc (i := 1) (own := [("number", 2)]) (g := (gName 2)) rfl nd rfl rfl (sw_true rfl rfl rfl (by decide +kernel)) (pi_range1 (by rfl) T.b_range (pa_cons (pe_callB (k_len (K := K) rfl) (by rfl) T.b_len (by decide +kernel) (pa_cons (pe_ix (k_ix (K := K) rfl) (pv 0) pe_int (fun _ _ => rfl)) pa_nil)) pa_nil)) (blkOk_by (own := [("number", 2)]) (by kernel_rfl)) (fun _ _ _ _ _ => (pg_name (i := 2) nd rfl (by first | exact Or.inl rfl | exact Or.inr rfl))) (fun _ _ _ _ _ => pts_nil) (fun _ _ _ _ _ => (pe_tup (pa_cons pe_str (pa_cons (pv 2) pa_nil)))))
      (pss_one (ps_ret (pe_callTy (k_tuple (K := K) rfl) (by rfl) T.b_tuple (by decide +kernel) (pa_cons (pe_op (k_addU (K := K) rfl) (pv 1) (pe_lc (own := [("number", 2)]) (g := (gName 2)) rfl nd (pi_range1 (by rfl) T.b_range (pa_cons (pe_callB (k_len (K := K) rfl) (by rfl) T.b_len (by decide +kernel) (pa_cons (pv 0) pa_nil)) pa_nil)) (blkOk_by (own := [("number", 2)]) (by kernel_rfl)) (fun _ _ _ _ _ => (pg_name (i := 2) nd rfl (by first | exact Or.inl rfl | exact Or.inr rfl))) (fun _ _ _ _ _ => pts_nil) (fun _ _ _ _ _ => (pe_tup (pa_cons pe_str (pa_cons (pv 2) pa_nil)))))) pa_nil))))),
    body_X (W := fun c d _ H => E c d H) ((sx_seq (sx_set (i := 1) (ex_lc (W0 := WF) (vs := [2]) (ei_rng1 (ea_cons (ex_tcb (f := lenF) (fun _ _ h => f_len h) (ea_cons (ex_ixN (i := 0) ex_int) ea_nil)) ea_nil)) (eg_name (by simp)) et_yes (ex_tup (ea_cons ex_str (ea_cons (ex_var (i := 2)) ea_nil)))) (by first | exact .inl (by decide) | exact .inr rfl))
      (sx_ret (ex_tcb (f := tupF) (fun _ _ h => f_tup h) (ea_cons (ex_op (f := addF) (fun _ _ _ h => f_add h) (ex_var (i := 1)) (ex_lc (W0 := WF) (vs := [2]) (ei_rng1 (ea_cons (ex_lenN (i := 0)) ea_nil)) (eg_name (by simp)) et_yes (ex_tup (ea_cons ex_str (ea_cons (ex_var (i := 2)) ea_nil))))) ea_nil))))) (fun _ _ _ _ z => z) (fun _ _ _ _ z => z) (arX_sp h)⟩
abbrev s_Board___init__ : Stmt := inClass (top 18) 0
theorem sc_Board___init__ : FnScope ["self", "rows"] ["self", "rows"] (defScope s_Board___init__) := ⟨rfl, rfl, rfl, by decide +kernel, rfl, by decide +kernel, by decide +kernel⟩
theorem ok_Board___init__ {f : Addr} {fd : FuncData} (F : Fun K "__init__" "Board.__init__" s_Board___init__ f fd) (T : Txt K mg A) {f__none_is_empty : Addr} {fx__none_is_empty : FuncData} (C__none_is_empty : Cal P w K mg base CX0 1 "_none_is_empty" f__none_is_empty fx__none_is_empty ["rows"] (spX (m__none_is_empty A))) {f__turned : Addr} {fx__turned : FuncData} (C__turned : Cal P w K mg base CX0 1 "_turned" f__turned fx__turned ["rows"] (spX (m__turned A))) {f__are_rows : Addr} {fx__are_rows : FuncData} (C__are_rows : Cal P w K mg base CX0 2 "_are_rows" f__are_rows fx__are_rows ["value"] (spX (m__are_rows A))) {fe_BadBoard : Addr} {fx_BadBoard : FuncData} (C_BadBoard : CalE P w K mg base "BadBoard" (A.a "BadBoard") fe_BadBoard fx_BadBoard) {f__dots_of : Addr} {fx__dots_of : FuncData} (C__dots_of : Cal P w K mg base CX0 1 "_dots_of" f__dots_of fx__dots_of ["rows"] (spX (m__dots_of A))) {f__wires_of : Addr} {fx__wires_of : FuncData} (C__wires_of : Cal P w K mg base CX0 1 "_wires_of" f__wires_of fx__wires_of ["rows"] (spX (m__wires_of A))) : FnOk P w K mg base (L2.CX P w) 3 f fd ["self", "rows"] (spW (A.a "Board") (m_Board___init__ A)) := by
  refine F.okX (k := 2) sc_Board___init__ (fun vs H Q E h => len_W (fun ds r e => arX_len e) h) (fun cdv A' outer s H vs Q E hr h => ?_)
  have nd := sc_Board___init__.nd
  exact ⟨_, (pss_cons (ps_if (PW.pt (pw_or (pt_not (pt_val (pe_call C__are_rows.ok (hr.mono (by decide)) rfl C__are_rows.mgx C__are_rows.kp C__are_rows.bd .nil pass0 (pa_cons (pv 1) pa_nil)))) (pw_or (pt_not (pt_val (pe_call C__none_is_empty.ok (hr.mono (by decide)) rfl C__none_is_empty.mgx C__none_is_empty.kp C__none_is_empty.bd .nil pass0 (pa_cons (pv 1) pa_nil)))) (pw_or1 (pt_not (pt_val (pe_call C__none_is_empty.ok (hr.mono (by decide)) rfl C__none_is_empty.mgx C__none_is_empty.kp C__none_is_empty.bd .nil pass0 (pa_cons (pe_call C__turned.ok (hr.mono (by decide)) rfl C__turned.mgx C__turned.kp C__turned.bd .nil pass0 (pa_cons (pv 1) pa_nil)) pa_nil)))))))) (pss_one (ps_raise rfl (takes_of rfl rfl rfl rfl) (pmk_oex C_BadBoard.er.oex C_BadBoard.er.iC C_BadBoard.er.tI C_BadBoard.ok (hr.mono (by decide)) C_BadBoard.bd .nil pass0 (by rfl) C_BadBoard.mgx (pa_cons (pv 1) pa_nil)))) pss_nil)
      (pss_cons (k_psfld (K := K) rfl (pv 0) (pv 1) rfl)
      (pss_cons (k_psfld (K := K) rfl (pv 0) (pe_callB (k_len (K := K) rfl) (by rfl) T.b_len (by decide +kernel) (pa_cons (pv 1) pa_nil)) rfl)
      (pss_cons (k_psfld (K := K) rfl (pv 0) (pe_callB (k_len (K := K) rfl) (by rfl) T.b_len (by decide +kernel) (pa_cons (pe_ix (k_ix (K := K) rfl) (pv 1) pe_int (fun _ _ => rfl)) pa_nil)) rfl)
      (pss_cons (k_psfld (K := K) rfl (pv 0) (pe_call C__dots_of.ok (hr.mono (by decide)) rfl C__dots_of.mgx C__dots_of.kp C__dots_of.bd .nil pass0 (pa_cons (pv 1) pa_nil)) rfl)
      (pss_cons (k_psfld (K := K) rfl (pv 0) (pe_call C__wires_of.ok (hr.mono (by decide)) rfl C__wires_of.mgx C__wires_of.kp C__wires_of.bd .nil pass0 (pa_cons (pv 1) pa_nil)) rfl)
      (pss_one (k_psfld (K := K) rfl (pv 0) (pe_cmpR (k_eqX (K := K) rfl hr.units) (pe_callB (k_len (K := K) rfl) (by rfl) T.b_len (by decide +kernel) (pa_cons (k_fld (K := K) rfl (pv 0) rfl) pa_nil)) (pe_op (k_mulX (K := K) rfl) (k_fld (K := K) rfl (pv 0) rfl) (k_fld (K := K) rfl (pv 0) rfl)) (nomark _)) rfl)))))))),
    body_W (W := fun c d _ H => E c d H) ((sx_seq (sx_if (et_or (et_not (et_B (ex_call0 (ea_cons (ex_var (i := 1)) ea_nil)))) (et_or (et_not (et_B (ex_call0 (ea_cons (ex_var (i := 1)) ea_nil)))) (et_not (et_B (ex_call0 (ea_cons (ex_call0 (ea_cons (ex_var (i := 1)) ea_nil)) ea_nil)))))) (sx_raise C_BadBoard.er.oex C_BadBoard.er.noV (ex_var (i := 1))) sx_next)
      (sx_seq (sx_fld (i := 0) T.fs_rows (ex_var (i := 1)))
      (sx_seq (sx_fld (i := 0) T.fs_height (ex_lenN (i := 1)))
      (sx_seq (sx_fld (i := 0) T.fs_width (ex_tcb (f := lenF) (fun _ _ h => f_len h) (ea_cons (ex_ixN (i := 1) ex_int) ea_nil)))
      (sx_seq (sx_fld (i := 0) T.fs_dots (ex_call0 (ea_cons (ex_var (i := 1)) ea_nil)))
      (sx_seq (sx_fld (i := 0) T.fs_wires (ex_call0 (ea_cons (ex_var (i := 1)) ea_nil)))
      (sx_fld (i := 0) T.fs_is_full (ex_op (f := eqX) (fun _ _ _ h => f_eqX h) (ex_tcb (f := lenF) (fun _ _ h => f_len h) (ea_cons (ex_fldN T.fl_dots) ea_nil)) (ex_op (f := mulX) (fun _ _ _ h => f_mulX h) (ex_fldN T.fl_height) (ex_fldN T.fl_width))))))))))) (fun _ _ _ _ z => z) (arW_sp h)⟩
abbrev s__law_are_rows : Stmt := top 29
theorem sc__law_are_rows : FnScope ["_law_value", "_law_wide", "_law_row", "_law_sign", "_law_at"] ["_law_value"] (defScope s__law_are_rows) := ⟨rfl, rfl, rfl, by decide +kernel, rfl, by decide +kernel, by decide +kernel⟩
theorem ok__law_are_rows {f : Addr} {fd : FuncData} (F : Fun K "_law_are_rows" "_law_are_rows" s__law_are_rows f fd) (T : Txt K mg A) : FnOk P w K mg base CX0 1 f fd ["_law_value"] (spX (m__law_are_rows A)) := by
  refine F.ok (k := 0) sc__law_are_rows (fun vs H Q E h => len_X (fun ds r e => arX_len e) h) (fun cdv A' outer s H vs Q E hr h => ?_)
  have nd := sc__law_are_rows.nd
  exact ⟨_, (pss_cons (ps_if (PW.pt (pw_or (pt_not (pt_val (pe_callB (k_isU (K := K) rfl) (by rfl) T.b_isinstance (by decide +kernel) (pa_cons (pv 0) (pa_cons (pe_bltn (v := .ty "tuple") (by rfl) T.b_tuple (by decide +kernel) rfl) pa_nil))))) (pw_or (pt_not (pt_chain op_le op_le pe_int (pe_callB (k_len (K := K) rfl) (by rfl) T.b_len (by decide +kernel) (pa_cons (pv 0) pa_nil)) pe_int)) (pw_or1 (pt_not (pt_val (pe_callB (k_all (K := K) rfl rfl) (by rfl) T.b_all (by decide +kernel) (pa_cons (pe_lc (own := [("_law_row", 2)]) (g := (gName 2)) rfl nd (k_pit (K := K) rfl (pv 0)) (blkOk_by (own := [("_law_row", 2)]) (by kernel_rfl)) (fun _ _ _ _ _ => (pg_name (i := 2) nd rfl (by first | exact Or.inl rfl | exact Or.inr rfl))) (fun _ _ _ _ _ => pts_nil) (fun _ _ _ _ _ => (pe_callB (k_isU (K := K) rfl) (by rfl) T.b_isinstance (by decide +kernel) (pa_cons (pv 2) (pa_cons (pe_bltn (v := .ty "str") (by rfl) T.b_str (by decide +kernel) rfl) pa_nil))))) pa_nil)))))))) (pss_one (ps_ret pe_bl)) pss_nil)
      (pss_cons (ps_set (i := 1) nd rfl (by first | exact Or.inl rfl | exact Or.inr rfl) (pe_callB (k_len (K := K) rfl) (by rfl) T.b_len (by decide +kernel) (pa_cons (pe_ix (k_ix (K := K) rfl) (pv 0) pe_int (fun _ _ => rfl)) pa_nil)))
      (pss_cons (ps_if (PW.pt (pw_or (pt_not (pt_chain op_le op_le pe_int (pv 1) pe_int)) (pw_or1 (pt_not (pt_val (pe_callB (k_all (K := K) rfl rfl) (by rfl) T.b_all (by decide +kernel) (pa_cons (pe_lc (own := [("_law_row", 2)]) (g := (gName 2)) rfl nd (k_pit (K := K) rfl (pv 0)) (blkOk_by (own := [("_law_row", 2)]) (by kernel_rfl)) (fun _ _ _ _ _ => (pg_name (i := 2) nd rfl (by first | exact Or.inl rfl | exact Or.inr rfl))) (fun _ _ _ _ _ => pts_nil) (fun _ _ _ _ _ => (pe_and (pe_cmpR (k_eqX (K := K) rfl hr.units) (pe_callB (k_len (K := K) rfl) (by rfl) T.b_len (by decide +kernel) (pa_cons (pv 2) pa_nil)) (pv 1) (nomark _)) (pe_one (pe_cmpR (k_inU (K := K) rfl (hr65 hr)) pe_str (pv 2) (by rfl)))))) pa_nil))))))) (pss_one (ps_ret pe_bl)) pss_nil)
      (pss_cons (ps_if (pt_not (pt_val (pe_callB (k_all (K := K) rfl rfl) (by rfl) T.b_all (by decide +kernel) (pa_cons (pe_lc (own := [("_law_sign", 3)]) (g := (gName 3)) rfl nd (pi_str (k_join (K := K) rfl pe_str (pv 0))) (blkOk_by (own := [("_law_sign", 3)]) (by kernel_rfl)) (fun _ _ _ _ _ => (pg_name (i := 3) nd rfl (by first | exact Or.inl rfl | exact Or.inr rfl))) (fun _ _ _ _ _ => pts_nil) (fun _ _ _ _ _ => (pe_cmpR (k_inU (K := K) rfl (hr65 hr)) (pv 3) pe_str (by rfl)))) pa_nil)))) (pss_one (ps_ret pe_bl)) pss_nil)
      (pss_one (ps_ret (pe_callB (k_all (K := K) rfl rfl) (by rfl) T.b_all (by decide +kernel) (pa_cons (pe_lc (own := [("_law_at", 4)]) (g := (gName 4)) rfl nd (pi_range1 (by rfl) T.b_range (pa_cons (pv 1) pa_nil)) (blkOk_by (own := [("_law_at", 4)]) (by kernel_rfl)) (fun _ _ _ _ _ => (pg_name (i := 4) nd rfl (by first | exact Or.inl rfl | exact Or.inr rfl))) (fun _ _ _ _ _ => pts_nil) (fun _ _ _ _ _ => (pe_cmpR (k_inU (K := K) rfl (hr65 hr)) pe_str (pe_lc (own := [("_law_row", 2)]) (g := (gName 2)) rfl nd (k_pit (K := K) rfl (pv 0)) (blkOk_by (own := [("_law_row", 2)]) (by kernel_rfl)) (fun _ _ _ _ _ => (pg_name (i := 2) nd rfl (by first | exact Or.inl rfl | exact Or.inr rfl))) (fun _ _ _ _ _ => pts_nil) (fun _ _ _ _ _ => (pe_ix (k_ix (K := K) rfl) (pv 2) (pv 4) (fun _ _ => rfl)))) (by rfl)))) pa_nil)))))))),
    body_X (W := fun c d _ H => E c d H) ((sx_seq (sx_if (et_or (et_not (et_B (ex_isi (.ty "tuple") T.is_tuple (ex_var (i := 0))))) (et_or (et_not (et_test (ex_chain (f := leF) (g := leF) (fun _ _ _ h => f_le h) (fun _ _ _ h => f_le h) ex_int (ex_lenN (i := 0)) ex_int))) (et_not (et_B (ex_tcb (f := allF) (fun _ _ h => f_all h) (ea_cons (ex_lc (W0 := WF) (vs := [2]) (ei_tup (ex_var (i := 0))) (eg_name (by simp)) et_yes (ex_isi (.ty "str") T.is_str (ex_var (i := 2)))) ea_nil)))))) (sx_ret ex_bl) sx_next)
      (sx_seq (sx_set (i := 1) (ex_tcb (f := lenF) (fun _ _ h => f_len h) (ea_cons (ex_ixN (i := 0) ex_int) ea_nil)) (by first | exact .inl (by decide) | exact .inr rfl))
      (sx_seq (sx_if (et_or (et_not (et_test (ex_chain (f := leF) (g := leF) (fun _ _ _ h => f_le h) (fun _ _ _ h => f_le h) ex_int (ex_var (i := 1)) ex_int))) (et_not (et_B (ex_tcb (f := allF) (fun _ _ h => f_all h) (ea_cons (ex_lc (W0 := WF) (vs := [2]) (ei_tup (ex_var (i := 0))) (eg_name (by simp)) et_yes (ex_andV (ex_op (f := eqX) (fun _ _ _ h => f_eqX h) (ex_lenN (i := 2)) (ex_var (i := 1))) (ex_op (f := inF) (fun _ _ _ h => f_in h) ex_str (ex_var (i := 2))))) ea_nil))))) (sx_ret ex_bl) sx_next)
      (sx_seq (sx_if (et_not (et_B (ex_tcb (f := allF) (fun _ _ h => f_all h) (ea_cons (ex_lc (W0 := WF) (vs := [3]) (ei_str (ex_join ex_str (ex_var (i := 0)))) (eg_name (by simp)) et_yes (ex_op (f := inF) (fun _ _ _ h => f_in h) (ex_var (i := 3)) ex_str)) ea_nil)))) (sx_ret ex_bl) sx_next)
      (sx_ret (ex_tcb (f := allF) (fun _ _ h => f_all h) (ea_cons (ex_lc (W0 := WF) (vs := [4]) (ei_rng1 (ea_cons (ex_var (i := 1)) ea_nil)) (eg_name (by simp)) et_yes (ex_op (f := inF) (fun _ _ _ h => f_in h) ex_str (ex_lc (W0 := WF) (vs := [2]) (ei_tup (ex_var (i := 0))) (eg_name (by simp)) et_yes (ex_ixN (i := 2) (ex_var (i := 4)))))) ea_nil)))))))) (fun _ _ _ _ z => z) (fun _ _ _ _ z => z) (arX_sp h)⟩
abbrev s__law_is_judged : Stmt := top 31
theorem sc__law_is_judged : FnScope ["_law_value", "_law_caught"] ["_law_value"] (defScope s__law_is_judged) := ⟨rfl, rfl, rfl, by decide +kernel, rfl, by decide +kernel, by decide +kernel⟩
theorem ok__law_is_judged {f c Pt fR : Addr} {oc kV doc pm ct : Value} {od an : Option Addr} {osl : Array (Option Value)} (look : K.lookup f = some ⟨oc, od, .func (PySem.W.fnOf "_law_is_judged" "_law_is_judged" (defArgs s__law_is_judged) (defBody s__law_is_judged) (defScope s__law_is_judged) .none kV doc pm an (.ref c) ct), osl⟩) (code : PySem.W.codeIn K (.ref c) "_law_is_judged" = true) (TB : LamX.TabB base mg c Pt) (mem : ((Pt, (PyProof.Rows.envOfC "_law_is_judged" (defScope s__law_is_judged) 0 f (.ref c)).qual ++ "<lambda>") : Addr × Str) ∈ Tab.T) (uniq : ∀ p ∈ Tab.T, p.1 = Pt → p.2 = (PyProof.Rows.envOfC "_law_is_judged" (defScope s__law_is_judged) 0 f (.ref c)).qual ++ "<lambda>") {ocR dVR kVR docR pmR cdR ctR : Value} {anR odR : Option Addr} {oslR : Array (Option Value)} (R : RefD K mg A fR ocR dVR kVR docR pmR cdR ctR anR odR oslR s__law_refusal) (T : Txt K mg A) {fi_Board : Addr} {fx_Board : FuncData} (C_Board : CalC P w K mg base (L2.CX P w) 3 "Board" (A.a "Board") fi_Board fx_Board ["self", "rows"] [] (spW (A.a "Board") (m_Board___init__ A))) {f__law_are_rows : Addr} {fx__law_are_rows : FuncData} (C__law_are_rows : Cal P w K mg base CX0 1 "_law_are_rows" f__law_are_rows fx__law_are_rows ["_law_value"] (spX (m__law_are_rows A))) : FnG P w K mg base 7 f (PySem.W.fnOf "_law_is_judged" "_law_is_judged" (defArgs s__law_is_judged) (defBody s__law_is_judged) (defScope s__law_is_judged) .none kV doc pm an (.ref c) ct) ["_law_value"] (spX (m__law_is_judged A)) := by
  refine fnG_lk (k := 6) look code sc__law_is_judged (fun vs H Q E h => len_X (fun ds r e => arX_len e) h) (fun A' outer s H vs Q E gd hr h => ?_)
  have nd := sc__law_is_judged.nd
  exact ⟨_, (pss_cons (ps_set (i := 1) nd rfl (by first | exact Or.inl rfl | exact Or.inr rfl) (LamX.pe_lamcall (k := 4) (T := Tab.T) (x := "_law_refusal") (a := "_law_look") rfl R.mgx R.kp R.lk R.cd R.bd sc__law_refusal rfl (.inl rfl) (ref_gives (e := "WireError") (a := "_law_look") (m := "_law_caught") (n := "error") sc__law_refusal.nd rfl rfl rfl rfl rfl rfl (by decide) (by decide) (by decide) (by decide) rfl R.me (by decide)) TB rfl mem uniq (hr.mono (by decide)) (LamX.lamS_by (sc := defScope s__law_is_judged) (by decide +kernel)) rfl (fun _ _ _ _ _ => rfl) (fun A outer s H E f c hr => (pe_make C_Board.mkk C_Board.ok (hr.mono (by decide)) rfl C_Board.mgx C_Board.bd .nil (passes_call (takes_of rfl rfl rfl rfl) fun _ _ _ _ h => h) (pa_cons (pv 0) pa_nil)))))
      (pss_cons (ps_if (pt_val (pe_call C__law_are_rows.ok (hr.mono (by decide)) rfl C__law_are_rows.mgx C__law_are_rows.kp C__law_are_rows.bd .nil pass0 (pa_cons (pv 0) pa_nil))) (pss_one (ps_ret (pe_cmpR k_isN (pv 1) pe_non (nomark _)))) pss_nil)
      (pss_one (ps_ret (pe_and (pe_callB (k_isU (K := K) rfl) (by rfl) T.b_isinstance (by decide +kernel) (pa_cons (pv 1) (pa_cons (pe_glob (v := .ref (A.a "BadBoard")) rfl T.c_BadBoard rfl) pa_nil))) (pe_and (pe_not (pe_callB (k_isU (K := K) rfl) (by rfl) T.b_isinstance (by decide +kernel) (pa_cons (pv 1) (pa_cons (pe_glob (v := .ref (A.a "BadRows")) rfl T.c_BadRows rfl) pa_nil)))) (pe_one (pe_cmpR (k_eqX (K := K) rfl hr.units) (pe_callB (call_reprX gd hr) (by rfl) T.b_repr (by decide +kernel) (pa_cons (k_fldE (K := K) rfl (pv 1) rfl) pa_nil)) (pe_callB (call_reprX gd hr) (by rfl) T.b_repr (by decide +kernel) (pa_cons (pv 0) pa_nil)) (nomark _))))))))),
    body_X (W := fun c d _ H => E c d H) ((sx_seq (sx_set (i := 1) (ex_ref T.ex_WireError fun E => (ex_makeX (fun _ _ _ _ h => h) (ea_cons (ex_var (i := 0)) ea_nil))) (by first | exact .inl (by decide) | exact .inr rfl))
      (sx_seq (sx_if (et_B (ex_call0 (ea_cons (ex_var (i := 0)) ea_nil))) (sx_ret (ex_op (f := isNF) (fun _ _ _ h => f_isN h) (ex_var (i := 1)) ex_non)) sx_next)
      (sx_ret (ex_andV (ex_isi (.own _) T.is_BadBoard (ex_var (i := 1))) (ex_andV (ex_notV (ex_isi (.own _) T.is_BadRows (ex_var (i := 1)))) (ex_op (f := eqX) (fun _ _ _ h => f_eqX h) (ex_tcb (f := reprX) (fun _ _ h => f_reprX h) (ea_cons (ex_fldE T.vl_value (ex_var (i := 1))) ea_nil)) (ex_tcb (f := reprX) (fun _ _ h => f_reprX h) (ea_cons (ex_var (i := 0)) ea_nil))))))))) (fun _ _ _ _ z => z) (fun _ _ _ _ z => z) (arX_sp h)⟩
abbrev s__law_right : Stmt := top 32
theorem sc__law_right : FnScope ["_law_pot_here", "_law_rows_here", "_law_turn", "_law_value", "_law_lap", "_law_wide", "_law_some"] ["_law_pot_here"] (defScope s__law_right) := ⟨rfl, rfl, rfl, by decide +kernel, rfl, by decide +kernel, by decide +kernel⟩
theorem ok__law_right {f : Addr} {fd : FuncData} (F : Fun K "_law_right" "_law_right" s__law_right f fd) (T : Txt K mg A) {f__law_small_rows : Addr} {fx__law_small_rows : FuncData} (C__law_small_rows : Cal P w K mg base CX0 3 "_law_small_rows" f__law_small_rows fx__law_small_rows ["_law_pot_here", "_law_most"] (spY (m__law_small_rows A))) {f__law_of : Addr} {fx__law_of : FuncData} (C__law_of : Cal P w K mg base CX0 2 "_law_of" f__law_of fx__law_of ["_law_pot_here", "_law_some"] (spY (m__law_of A))) {f__law_bent_rows : Addr} {fx__law_bent_rows : FuncData} (C__law_bent_rows : Cal P w K mg base CX0 5 "_law_bent_rows" f__law_bent_rows fx__law_bent_rows ["_law_pot_here", "_law_rows_here"] (spY (m__law_bent_rows A))) {f__law_take : Addr} {fx__law_take : FuncData} (C__law_take : Cal P w K mg base CX0 1 "_law_take" f__law_take fx__law_take ["_law_pot_here", "_law_upto"] (spY (m__law_take A))) {f__law_is_judged : Addr} {fx__law_is_judged : FuncData} (C__law_is_judged : CalG P w K mg base 7 "_law_is_judged" f__law_is_judged fx__law_is_judged ["_law_value"] (spX (m__law_is_judged A))) {f__law_odd : Addr} {fx__law_odd : FuncData} (C__law_odd : Cal P w K mg base CX0 3 "_law_odd" f__law_odd fx__law_odd ["_law_pot_here"] (spY (m__law_odd A))) : FnG P w K mg base 8 f fd ["_law_pot_here"] (spY (m__law_right A)) := by
  refine fnG_of (k := 7) F sc__law_right (fun vs H Q E h => len_Y (fun ms ds r e => arY_len e) h) (fun cdv A' outer s H vs Q E gd hr h => ?_)
  have nd := sc__law_right.nd
  exact ⟨_, (pss_cons (ps_set (i := 1) nd rfl (by first | exact Or.inl rfl | exact Or.inr rfl) (pe_call C__law_small_rows.ok (hr.mono (by decide)) rfl C__law_small_rows.mgx C__law_small_rows.kp C__law_small_rows.bd .nil pass0 (pa_cons (pv 0) (pa_cons (pe_call C__law_of.ok (hr.mono (by decide)) rfl C__law_of.mgx C__law_of.kp C__law_of.bd .nil pass0 (pa_cons (pv 0) (pa_cons (pe_lst (pa_cons pe_int (pa_cons pe_int (pa_cons pe_int pa_nil)))) pa_nil))) pa_nil))))
      (pss_cons (ps_for PassesOwn.never rfl (pi_range1 (by rfl) T.b_range (pa_cons pe_int pa_nil)) (pg_name (i := 2) nd rfl (by first | exact Or.inl rfl | exact Or.inr rfl)) (pss_cons (ps_set (i := 3) nd rfl (by first | exact Or.inl rfl | exact Or.inr rfl) (pe_call C__law_bent_rows.ok (hr.mono (by decide)) rfl C__law_bent_rows.mgx C__law_bent_rows.kp C__law_bent_rows.bd .nil pass0 (pa_cons (pv 0) (pa_cons (pv 1) pa_nil))))
      (pss_cons (ps_for PassesOwn.never rfl (pi_range1 (by rfl) T.b_range (pa_cons (pe_call C__law_take.ok (hr.mono (by decide)) rfl C__law_take.mgx C__law_take.kp C__law_take.bd .nil pass0 (pa_cons (pv 0) (pa_cons pe_int pa_nil))) pa_nil)) (pg_name (i := 4) nd rfl (by first | exact Or.inl rfl | exact Or.inr rfl)) (pss_one (ps_set (i := 3) nd rfl (by first | exact Or.inl rfl | exact Or.inr rfl) (pe_ifExp (PW.pt (pw_and (pt_val (pe_callB (k_isU (K := K) rfl) (by rfl) T.b_isinstance (by decide +kernel) (pa_cons (pv 3) (pa_cons (pe_bltn (v := .ty "tuple") (by rfl) T.b_tuple (by decide +kernel) rfl) pa_nil)))) (pw_and1 (pt_cmpR (k_neX (K := K) rfl hr.units) (pv 3) (pe_tup pa_nil) (nomark _))))) (pe_call C__law_bent_rows.ok (hr.mono (by decide)) rfl C__law_bent_rows.mgx C__law_bent_rows.kp C__law_bent_rows.bd .nil pass0 (pa_cons (pv 0) (pa_cons (pv 3) pa_nil))) (pv 3)))))
      (pss_one (ps_if (pt_not (pt_val (pe_callG (E := E0) gd C__law_is_judged.ok (hr.mono (by decide)) rfl C__law_is_judged.mgx C__law_is_judged.kp C__law_is_judged.bd (pa_cons (pv 3) pa_nil)))) (pss_one (ps_ret pe_bl)) pss_nil)))))
      (pss_cons (ps_set (i := 5) nd rfl (by first | exact Or.inl rfl | exact Or.inr rfl) (pe_op (k_addU (K := K) rfl) pe_int (pe_call C__law_take.ok (hr.mono (by decide)) rfl C__law_take.mgx C__law_take.kp C__law_take.bd .nil pass0 (pa_cons (pv 0) (pa_cons pe_int pa_nil)))))
      (pss_cons (ps_set (i := 6) nd rfl (by first | exact Or.inl rfl | exact Or.inr rfl) (pe_lst (pa_cons (pe_op (k_mulX (K := K) rfl) (pe_tup (pa_cons (pe_op (k_mulX (K := K) rfl) pe_str (pv 5)) pa_nil)) pe_int) (pa_cons (pe_op (k_mulX (K := K) rfl) (pe_tup (pa_cons (pe_op (k_mulX (K := K) rfl) pe_str (pv 5)) pa_nil)) pe_int) (pa_cons (pe_op (k_mulX (K := K) rfl) (pe_tup (pa_cons (pe_op (k_mulX (K := K) rfl) pe_str pe_int) pa_nil)) (pv 5)) (pa_cons (pe_op (k_mulX (K := K) rfl) (pe_tup (pa_cons (pe_op (k_mulX (K := K) rfl) pe_str pe_int) pa_nil)) (pv 5)) (pa_cons (pe_tup (pa_cons pe_str pa_nil)) (pa_cons (pe_tup pa_nil) pa_nil))))))))
      (pss_one (ps_ret (pe_callB (k_all (K := K) rfl rfl) (by rfl) T.b_all (by decide +kernel) (pa_cons (pe_lc (own := [("_law_value", 3)]) (g := (gName 3)) rfl nd (k_pil (K := K) rfl (pe_op (k_addU (K := K) rfl) (pv 6) (pe_lst (pa_cons (pe_call C__law_odd.ok (hr.mono (by decide)) rfl C__law_odd.mgx C__law_odd.kp C__law_odd.bd .nil pass0 (pa_cons (pv 0) pa_nil)) (pa_cons (pe_callTy (k_list (K := K) rfl) (by rfl) T.b_list (by decide +kernel) (pa_cons (pv 1) pa_nil)) (pa_cons (k_join (K := K) rfl pe_str (pv 1)) (pa_cons (pe_ix (k_ix (K := K) rfl) (pv 1) pe_int (fun _ _ => rfl)) pa_nil))))))) (blkOk_by (own := [("_law_value", 3)]) (by kernel_rfl)) (fun _ _ _ _ _ => (pg_name (i := 3) nd rfl (by first | exact Or.inl rfl | exact Or.inr rfl))) (fun _ _ _ _ _ => pts_nil) (fun _ _ _ _ _ => (pe_callG (E := E0) gd C__law_is_judged.ok (hr.mono (by decide)) rfl C__law_is_judged.mgx C__law_is_judged.kp C__law_is_judged.bd (pa_cons (pv 3) pa_nil)))) pa_nil)))))))),
    body_Y (W := WF) ((sx_seq (sx_set (i := 1) (ex_callY (i := 0) (ea_cons (ex_callY (i := 0) (ea_cons (ex_lst (ea_cons ex_int (ea_cons ex_int (ea_cons ex_int ea_nil)))) ea_nil)) ea_nil)) (by first | exact .inl (by decide) | exact .inr rfl))
      (sx_seq (sx_for (vs := [2]) (ei_rng1 (ea_cons ex_int ea_nil)) (eg_name (by simp)) (sx_seq (sx_set (i := 3) (ex_callY (i := 0) (ea_cons (ex_var (i := 1)) ea_nil)) (by first | exact .inl (by decide) | exact .inr rfl))
      (sx_seq (sx_for (vs := [4]) (ei_rng1 (ea_cons (ex_callY (i := 0) (ea_cons ex_int ea_nil)) ea_nil)) (eg_name (by simp)) (sx_set (i := 3) (ex_if (et_and (et_B (ex_isi (.ty "tuple") T.is_tuple (ex_var (i := 3)))) (et_test (ex_op (f := neX) (fun _ _ _ h => f_neX h) (ex_var (i := 3)) (ex_tup ea_nil)))) (ex_callY (i := 0) (ea_cons (ex_var (i := 3)) ea_nil)) (ex_var (i := 3))) (by first | exact .inl (by decide) | exact .inr rfl)) (by first | exact .inl (by decide) | exact .inr rfl))
      (sx_if (et_not (et_B (ex_call0 (ea_cons (ex_var (i := 3)) ea_nil)))) (sx_ret ex_bl) sx_next))) (by first | exact .inl (by decide) | exact .inr rfl))
      (sx_seq (sx_set (i := 5) (ex_op (f := addF) (fun _ _ _ h => f_add h) ex_int (ex_callY (i := 0) (ea_cons ex_int ea_nil))) (by first | exact .inl (by decide) | exact .inr rfl))
      (sx_seq (sx_set (i := 6) (ex_lst (ea_cons (ex_op (f := mulX) (fun _ _ _ h => f_mulX h) (ex_tup (ea_cons (ex_op (f := mulX) (fun _ _ _ h => f_mulX h) ex_str (ex_var (i := 5))) ea_nil)) ex_int) (ea_cons (ex_op (f := mulX) (fun _ _ _ h => f_mulX h) (ex_tup (ea_cons (ex_op (f := mulX) (fun _ _ _ h => f_mulX h) ex_str (ex_var (i := 5))) ea_nil)) ex_int) (ea_cons (ex_op (f := mulX) (fun _ _ _ h => f_mulX h) (ex_tup (ea_cons (ex_op (f := mulX) (fun _ _ _ h => f_mulX h) ex_str ex_int) ea_nil)) (ex_var (i := 5))) (ea_cons (ex_op (f := mulX) (fun _ _ _ h => f_mulX h) (ex_tup (ea_cons (ex_op (f := mulX) (fun _ _ _ h => f_mulX h) ex_str ex_int) ea_nil)) (ex_var (i := 5))) (ea_cons (ex_tup (ea_cons ex_str ea_nil)) (ea_cons (ex_tup ea_nil) ea_nil))))))) (by first | exact .inl (by decide) | exact .inr rfl))
      (sx_ret (ex_tcb (f := allF) (fun _ _ h => f_all h) (ea_cons (ex_lc (W0 := WF) (vs := [3]) (ei_list (ex_op (f := addF) (fun _ _ _ h => f_add h) (ex_var (i := 6)) (ex_lst (ea_cons (ex_callY (i := 0) ea_nil) (ea_cons (ex_tcb (f := listF) (fun _ _ h => f_list h) (ea_cons (ex_var (i := 1)) ea_nil)) (ea_cons (ex_join ex_str (ex_var (i := 1))) (ea_cons (ex_ixN (i := 1) ex_int) ea_nil))))))) (eg_name (by simp)) et_yes (ex_call0 (ea_cons (ex_var (i := 3)) ea_nil))) ea_nil)))))))) (arY_sp h)⟩
abbrev s__law_pot : Stmt := top 20
theorem sc__law_pot : FnScope ["_law_script", "_law_number", "_law_cell", "_law_own", "_law_base"] ["_law_script", "_law_number"] (defScope s__law_pot) := ⟨rfl, rfl, rfl, by decide +kernel, rfl, by decide +kernel, by decide +kernel⟩
theorem ok__law_pot {f : Addr} {fd : FuncData} (F : Fun K "_law_pot" "_law_pot" s__law_pot f fd) (T : Txt K mg A) : FnOk P w K mg base CX0 1 f fd ["_law_script", "_law_number"] (spZ (m__law_pot A)) := by
  refine F.ok (k := 0) sc__law_pot (fun vs H Q E h => len_Z (fun ds r e => arX_len e) h) (fun cdv A' outer s H vs Q E hr h => ?_)
  have nd := sc__law_pot.nd
  exact ⟨_, (pss_cons (ps_set (i := 2) nd rfl (by first | exact Or.inl rfl | exact Or.inr rfl) (pe_ifExp (pt_cmpR (k_ltU (K := K) rfl hr.units0) (pv 1) (pe_callB (k_len (K := K) rfl) (by rfl) T.b_len (by decide +kernel) (pa_cons (pv 0) pa_nil)) (nomark _)) (pe_ix (k_ix (K := K) rfl) (pv 0) (pv 1) (fun _ _ => rfl)) (pe_op (k_addU (K := K) rfl) (pe_op (k_mulX (K := K) rfl) pe_int (pv 1)) pe_int)))
      (pss_cons (ps_set (i := 3) nd rfl (by first | exact Or.inl rfl | exact Or.inr rfl) (pe_op (k_mulX (K := K) rfl) (pe_op op_mod (pe_callTy call_intK (by rfl) T.b_int (by decide +kernel) (pa_cons (pe_callB call_absK (by rfl) T.b_abs (by decide +kernel) (pa_cons (pv 2) pa_nil)) pa_nil)) (pe_op op_powW (pe_op op_powW pe_int pe_int) pe_int)) (pe_callTy call_intK (by rfl) T.b_int (by decide +kernel) (pa_cons (pe_cmpR op_ge (pe_callB call_absK (by rfl) T.b_abs (by decide +kernel) (pa_cons (pv 2) pa_nil)) (pe_op op_powW pe_int pe_int) (nomark _)) pa_nil))))
      (pss_cons (ps_set (i := 4) nd rfl (by first | exact Or.inl rfl | exact Or.inr rfl) (pe_op (k_addU (K := K) rfl) (pe_op (k_addU (K := K) rfl) (pe_op (k_mulX (K := K) rfl) (pe_op op_mod (pe_callTy call_intK (by rfl) T.b_int (by decide +kernel) (pa_cons (pv 2) pa_nil)) pe_int) pe_int) (pe_op (k_mulX (K := K) rfl) (pe_op (k_mulX (K := K) rfl) pe_int (pv 1)) (pv 1))) pe_int))
      (pss_one (ps_ret (pe_lst (pa_cons (pv 3) (pa_cons (pe_op op_mod (pe_callTy call_intK (by rfl) T.b_int (by decide +kernel) (pa_cons (pv 4) pa_nil)) pe_int) (pa_cons pe_int pa_nil))))))))),
    body_Z (W := WF) ((sx_seq (sx_set (i := 2) (ex_if (et_test (ex_op (f := ltF) (fun _ _ _ h => f_lt h) (ex_var (i := 1)) (ex_lenN (i := 0)))) (ex_ixN (i := 0) (ex_var (i := 1))) (ex_op (f := addF) (fun _ _ _ h => f_add h) (ex_op (f := mulX) (fun _ _ _ h => f_mulX h) ex_int (ex_var (i := 1))) ex_int)) (by first | exact .inl (by decide) | exact .inr rfl))
      (sx_seq (sx_set (i := 3) (ex_op (f := mulX) (fun _ _ _ h => f_mulX h) (ex_op (f := modF) (fun _ _ _ h => f_mod h) (ex_tcb (f := intF) (fun _ _ h => f_int h) (ea_cons (ex_tcb (f := absF) (fun _ _ h => f_abs h) (ea_cons (ex_var (i := 2)) ea_nil)) ea_nil)) (ex_op (f := powF) (fun _ _ _ h => f_pow h) (ex_op (f := powF) (fun _ _ _ h => f_pow h) ex_int ex_int) ex_int)) (ex_tcb (f := intF) (fun _ _ h => f_int h) (ea_cons (ex_op (f := geF) (fun _ _ _ h => f_ge h) (ex_tcb (f := absF) (fun _ _ h => f_abs h) (ea_cons (ex_var (i := 2)) ea_nil)) (ex_op (f := powF) (fun _ _ _ h => f_pow h) ex_int ex_int)) ea_nil))) (by first | exact .inl (by decide) | exact .inr rfl))
      (sx_seq (sx_set (i := 4) (ex_op (f := addF) (fun _ _ _ h => f_add h) (ex_op (f := addF) (fun _ _ _ h => f_add h) (ex_op (f := mulX) (fun _ _ _ h => f_mulX h) (ex_op (f := modF) (fun _ _ _ h => f_mod h) (ex_tcb (f := intF) (fun _ _ h => f_int h) (ea_cons (ex_var (i := 2)) ea_nil)) ex_int) ex_int) (ex_op (f := mulX) (fun _ _ _ h => f_mulX h) (ex_op (f := mulX) (fun _ _ _ h => f_mulX h) ex_int (ex_var (i := 1))) (ex_var (i := 1)))) ex_int) (by first | exact .inl (by decide) | exact .inr rfl))
      (sx_retN (ea_cons (ex_var (i := 3)) (ea_cons (ex_op (f := modF) (fun _ _ _ h => f_mod h) (ex_tcb (f := intF) (fun _ _ h => f_int h) (ea_cons (ex_var (i := 4)) ea_nil)) ex_int) (ea_cons ex_int ea_nil)))))))) (arZ_sp h)⟩
abbrev s_law : Stmt := top 33
theorem sc_law : FnScope ["_law_script", "_law_number"] ["_law_script"] (defScope s_law) := ⟨rfl, rfl, rfl, by decide +kernel, rfl, by decide +kernel, by decide +kernel⟩
theorem ok_law {f : Addr} {fd : FuncData} (F : Fun K "law" "law" s_law f fd) (T : Txt K mg A) {f__law_right : Addr} {fx__law_right : FuncData} (C__law_right : CalG P w K mg base 8 "_law_right" f__law_right fx__law_right ["_law_pot_here"] (spY (m__law_right A))) {f__law_pot : Addr} {fx__law_pot : FuncData} (C__law_pot : Cal P w K mg base CX0 1 "_law_pot" f__law_pot fx__law_pot ["_law_script", "_law_number"] (spZ (m__law_pot A))) : FnG P w K mg base 9 f fd ["_law_script"] (spX (m_law A)) := by
  refine fnG_of (k := 8) F sc_law (fun vs H Q E h => len_X (fun ds r e => arX_len e) h) (fun cdv A' outer s H vs Q E gd hr h => ?_)
  have nd := sc_law.nd
  exact ⟨_, (pss_one (ps_ret (pe_callB (k_all (K := K) rfl rfl) (by rfl) T.b_all (by decide +kernel) (pa_cons (pe_lc (own := [("_law_number", 1)]) (g := (gName 1)) rfl nd (pi_range1 (by rfl) T.b_range (pa_cons (pe_callB (call_maxK rfl) (by rfl) T.b_max (by decide +kernel) (pa_cons pe_int (pa_cons (pe_callB (call_minK rfl) (by rfl) T.b_min (by decide +kernel) (pa_cons pe_int (pa_cons (pe_callB (k_len (K := K) rfl) (by rfl) T.b_len (by decide +kernel) (pa_cons (pv 0) pa_nil)) pa_nil))) pa_nil))) pa_nil)) (blkOk_by (own := [("_law_number", 1)]) (by kernel_rfl)) (fun _ _ _ _ _ => (pg_name (i := 1) nd rfl (by first | exact Or.inl rfl | exact Or.inr rfl))) (fun _ _ _ _ _ => pts_nil) (fun _ _ _ _ _ => (pe_callG (E := E0) gd C__law_right.ok (hr.mono (by decide)) rfl C__law_right.mgx C__law_right.kp C__law_right.bd (pa_cons (pe_call C__law_pot.ok (hr.mono (by decide)) rfl C__law_pot.mgx C__law_pot.kp C__law_pot.bd .nil pass0 (pa_cons (pv 0) (pa_cons (pv 1) pa_nil))) pa_nil)))) pa_nil)))),
    body_X (W := fun c d _ H => E c d H) ((sx_ret (ex_tcb (f := allF) (fun _ _ h => f_all h) (ea_cons (ex_lc (W0 := WF) (vs := [1]) (ei_rng1 (ea_cons (ex_tcb (f := maxF) (fun _ _ h => f_max h) (ea_cons ex_int (ea_cons (ex_tcb (f := minF) (fun _ _ h => f_min h) (ea_cons ex_int (ea_cons (ex_lenN (i := 0)) ea_nil))) ea_nil))) ea_nil)) (eg_name (by simp)) et_yes (ex_callN (ea_cons (ex_var (i := 0)) (ea_cons (ex_var (i := 1)) ea_nil)))) ea_nil)))) (fun _ _ _ _ z => z) (fun _ _ _ _ z => z) (arX_sp h)⟩
end
end L02
/-! What the functions give: step by step. -/
namespace Wd
open PySem L2
def Ok {α : Type} (m : M α) (ε : Sl) (P : α → Sl → Prop) : Prop := ∃ a e, m ε = some (.ok a, e) ∧ P a e
def Dn (s : S) (ε : Sl) (P : Out → Sl → Prop) : Prop := ∃ o e, s ε = some (o, e) ∧ P o e
section
variable {α β : Type} {m : M α} {f : α → M β} {ε : Sl} {P : β → Sl → Prop} {a : α}
theorem ok_giv {P : α → Sl → Prop} (h : P a ε) : Ok (giv a) ε P := ⟨a, ε, rfl, h⟩
theorem ok_bnd (h : Ok m ε fun a e => Ok (f a) e P) : Ok (bnd m f) ε P := by
  obtain ⟨a, e, h1, b, e2, h2, q⟩ := h
  exact ⟨b, e2, by unfold bnd; rw [h1]; exact h2, q⟩
theorem ok_lif {o : Option α} {P : α → Sl → Prop} (h : ∃ z, o = some z ∧ P z ε) : Ok (lif o) ε P := by
  obtain ⟨z, e, q⟩ := h
  exact ⟨z, ε, by rw [e]; rfl, q⟩
end
section
variable {ε : Sl} {P : D → Sl → Prop} {Pb : Bool → Sl → Prop} {Pl : List D → Sl → Prop} {i j : Nat} {d : D} {ds : List D} {ma mb mc me mo mi : M D} {mA : M (List D)} {m n : M Bool} {f g : D → D → Option D}
theorem Ok.mono {α : Type} {m : M α} {P Q : α → Sl → Prop} (h : Ok m ε P) (q : ∀ a e, P a e → Q a e) : Ok m ε Q := by
  obtain ⟨a, e, h1, h2⟩ := h
  exact ⟨a, e, h1, q a e h2⟩
theorem ok_var (e : ε[i]? = some (.dat d)) (h : P d ε) : Ok (mVar i) ε P := ⟨d, ε, by unfold mVar; rw [e], h⟩
theorem ok_varL (e : ε[i]? = some (.mls ds)) (h : P (.lst ds) (ε.set i (.dat (.lst ds)))) : Ok (mVar i) ε P := ⟨_, _, by unfold mVar; rw [e], h⟩
theorem ok_op (h : Ok ma ε fun x e => Ok mb e fun y e2 => ∃ z, f x y = some z ∧ P z e2) : Ok (mOp f ma mb) ε P := ok_bnd (h.mono fun _ _ z => ok_bnd (z.mono fun _ _ w => ok_lif w))
theorem ok_un {f : D → Option D} (h : Ok ma ε fun x e => ∃ z, f x = some z ∧ P z e) : Ok (mUn f ma) ε P := ok_bnd (h.mono fun _ _ w => ok_lif w)
theorem ok_nil (h : Pl [] ε) : Ok mNil ε Pl := ok_giv h
theorem ok_cons (h : Ok ma ε fun x e => Ok mA e fun xs e2 => Pl (x :: xs) e2) : Ok (mCons ma mA) ε Pl := ok_bnd (h.mono fun _ _ z => ok_bnd (z.mono fun _ _ w => ok_giv w))
theorem ok_cb {f : List D → Option D} (h : Ok mA ε fun xs e => ∃ z, f xs = some z ∧ P z e) : Ok (mCB f mA) ε P := ok_bnd (h.mono fun _ _ w => ok_lif w)
theorem ok_tup (h : Ok mA ε fun xs e => xs.length ≤ 1000 ∧ P (.tup xs) e) : Ok (mTup mA) ε P := ok_bnd (h.mono fun _ _ w => ok_lif ⟨_, by unfold sml; exact if_pos w.1, w.2⟩)
theorem ok_lst (h : Ok mA ε fun xs e => xs.length ≤ 1000 ∧ P (.lst xs) e) : Ok (mLst mA) ε P := ok_bnd (h.mono fun _ _ w => ok_lif ⟨_, by unfold sml; exact if_pos w.1, w.2⟩)
theorem ok_dic (h : P (.dic []) ε) : Ok mDic ε P := ok_giv h
theorem ok_bool (h : Ok ma ε fun x e => ∃ b, x = .bl b ∧ Pb b e) : Ok (mBool ma) ε Pb := ok_bnd (h.mono fun x e w => by obtain ⟨b, rfl, q⟩ := w; exact ok_giv q)
theorem ok_not (h : Ok m ε fun b e => Pb (!b) e) : Ok (mNot m) ε Pb := ok_bnd (h.mono fun _ _ w => ok_giv w)
theorem ok_and (h : Ok m ε fun b e => (b = true → Ok n e Pb) ∧ (b = false → Pb false e)) : Ok (mAnd m n) ε Pb := ok_bnd (h.mono fun b e w => by
  cases b with
  | true => exact w.1 rfl
  | false => exact ok_giv (w.2 rfl))
theorem ok_or (h : Ok m ε fun b e => (b = true → Pb true e) ∧ (b = false → Ok n e Pb)) : Ok (mOr m n) ε Pb := ok_bnd (h.mono fun b e w => by
  cases b with
  | true => exact ok_giv (w.1 rfl)
  | false => exact w.2 rfl)
theorem ok_andV (h : Ok ma ε fun x e => ∃ b, x = .bl b ∧ (b = true → Ok mb e P) ∧ (b = false → P (.bl false) e)) : Ok (mAndV ma mb) ε P := ok_bnd (ok_bool (h.mono fun x e w => by
  obtain ⟨b, rfl, w1, w2⟩ := w
  refine ⟨b, rfl, ?_⟩
  cases b with
  | true => exact w1 rfl
  | false => exact ok_giv (w2 rfl)))
theorem ok_orV (h : Ok ma ε fun x e => ∃ b, x = .bl b ∧ (b = true → P (.bl true) e) ∧ (b = false → Ok mb e P)) : Ok (mOrV ma mb) ε P := ok_bnd (ok_bool (h.mono fun x e w => by
  obtain ⟨b, rfl, w1, w2⟩ := w
  refine ⟨b, rfl, ?_⟩
  cases b with
  | true => exact ok_giv (w1 rfl)
  | false => exact w2 rfl))
theorem ok_notV (h : Ok ma ε fun x e => ∃ b, x = .bl b ∧ P (.bl (!b)) e) : Ok (mNotV ma) ε P := ok_bnd (ok_bool (h.mono fun x e w => by
  obtain ⟨b, rfl, q⟩ := w
  exact ⟨b, rfl, ok_giv q⟩))
theorem ok_if (h : Ok m ε fun b e => (b = true → Ok ma e P) ∧ (b = false → Ok mb e P)) : Ok (mIf m ma mb) ε P := ok_bnd (h.mono fun b e w => by
  cases b with
  | true => exact w.1 rfl
  | false => exact w.2 rfl)
theorem ok_yes (h : Pb true ε) : Ok mYes ε Pb := ok_giv h
theorem ok_chain (h : Ok ma ε fun x e => Ok mb e fun y e2 => ∃ k, f x y = some (.bl k) ∧ (k = true → Ok mc e2 fun z e3 => ∃ w, g y z = some w ∧ P w e3) ∧ (k = false → P (.bl false) e2)) : Ok (mChain f g ma mb mc) ε P :=
  ok_bnd (h.mono fun x e w => ok_bnd (w.mono fun y e2 z => by
    obtain ⟨k, q, z1, z2⟩ := z
    refine ok_bnd (ok_bool (ok_lif ⟨_, q, k, rfl, ?_⟩))
    cases k with
    | true => exact ok_bnd ((z1 rfl).mono fun _ _ w => ok_lif w)
    | false => exact ok_giv (z2 rfl)))
theorem ok_ixN (e : ε[i]? = some (.dat d)) (h : Ok mi ε fun c e => ∃ z, ixF d c = some z ∧ P z e) : Ok (mIxN i mi) ε P := by
  have : mIxN i mi ε = mOp ixF (mVar i) mi ε := by unfold mIxN; rw [e]
  obtain ⟨a, e2, q1, q2⟩ := ok_op (ok_var e h)
  exact ⟨a, e2, by rw [this]; exact q1, q2⟩
theorem ok_ixM (e : ε[i]? = some (.mls ds)) (h : Ok mi ε fun c e => ∃ k es z, c = .int k ∧ e[i]? = some (.mls es) ∧ atI es k = some z ∧ P z e) : Ok (mIxN i mi) ε P := by
  obtain ⟨c, e2, q1, k, es, z, rfl, h1, h2, q⟩ := h
  refine ⟨z, e2, ?_, q⟩
  unfold mIxN bnd lif
  rw [e]
  simp only [q1, h1, h2]
theorem ok_lenN (e : ε[i]? = some (.dat d)) (h : ∃ z, lenF [d] = some z ∧ P z ε) : Ok (mLenN i) ε P := by
  have : mLenN i ε = mCB lenF (mCons (mVar i) mNil) ε := by unfold mLenN; rw [e]
  obtain ⟨a, e2, q1, q2⟩ := ok_cb (ok_cons (ok_var e (ok_nil h)))
  exact ⟨a, e2, by rw [this]; exact q1, q2⟩
theorem ok_lenM (e : ε[i]? = some (.mls ds)) (h : P (.int ds.length) ε) : Ok (mLenN i) ε P := ⟨_, _, by unfold mLenN; rw [e], h⟩
theorem ok_part {P : Option Int → Sl → Prop} (h : Ok me ε fun x e => ∃ k, x = .int k ∧ P (some k) e) : Ok (mPart me) ε P := ok_bnd (h.mono fun x e w => by obtain ⟨k, rfl, q⟩ := w; exact ok_giv q)
theorem ok_sl {ml mh : M (Option Int)} (h : Ok me ε fun x e => Ok ml e fun lo e2 => Ok mh e2 fun hi e3 => ∃ z, slF x lo hi = some z ∧ P z e3) : Ok (mSl me ml mh) ε P :=
  ok_bnd (h.mono fun _ _ w => ok_bnd (w.mono fun _ _ w => ok_bnd (w.mono fun _ _ w => ok_lif w)))
theorem ok_join (h : Ok mo ε fun x e => ∃ a, x = .str a ∧ Ok me e fun y e2 => ∃ z, joinF (.str a) y = some z ∧ P z e2) : Ok (mJoin mo me) ε P :=
  ok_bnd (h.mono fun x e w => by obtain ⟨a, rfl, q⟩ := w; exact ok_bnd (q.mono fun _ _ w => ok_lif w))
theorem ok_call0 {m : List D → Option (Rs D)} (h : Ok mA ε fun xs e => ∃ z, m xs = some (.ok z) ∧ P z e) : Ok (mCall0 m mA) ε P := ok_bnd (h.mono fun xs e w => by obtain ⟨z, q1, q2⟩ := w; exact ok_lif ⟨z, by rw [q1]; rfl, q2⟩)
theorem ok_callY {m : List D → List D → Option (D × List D)} {ms0 : List D} (e : ε[i]? = some (.mls ms0)) (h : Ok mA ε fun xs e1 => ∃ ms, e1[i]? = some (.mls ms) ∧ ∃ d ms', m ms xs = some (d, ms') ∧ P d (e1.set i (.mls ms'))) : Ok (mCallY i m mA) ε P := by
  obtain ⟨xs, e1, q1, ms, h1, d, ms', h2, q⟩ := h
  refine ⟨d, _, ?_, q⟩
  unfold mCallY bnd
  rw [e]
  simp only [q1, h1, h2, Option.map_some]
theorem ok_callN {m : List D → List D → Option (D × List D)} {m' : List D → Option (List D)} (h : Ok mA ε fun xs e => ∃ ms, m' xs = some ms ∧ ∃ d ms', m ms [] = some (d, ms') ∧ P d e) : Ok (mCallN m m' mA) ε P :=
  ok_bnd (h.mono fun xs e w => by obtain ⟨ms, h1, d, ms', h2, q⟩ := w; exact ok_lif ⟨d, by rw [h1]; simp only [h2, Option.map_some], q⟩)
theorem ok_it {f : D → Option (List D)} (h : Ok me ε fun x e => ∃ z, f x = some z ∧ Pl z e) : Ok (mIt f me) ε Pl := ok_bnd (h.mono fun _ _ w => ok_lif w)
theorem ok_itA {f : List D → Option (List D)} (h : Ok mA ε fun x e => ∃ z, f x = some z ∧ Pl z e) : Ok (mItA f mA) ε Pl := ok_bnd (h.mono fun _ _ w => ok_lif w)
theorem lcGo_map {g : D → Sl → Option Sl} {m : M D} {vs : List Nat} {E : Sl} {f : D → D} : ∀ {ds : List D}, (∀ d ∈ ds, ∃ ε2, g d E = some ε2 ∧ Ok m ε2 fun y ε4 => y = f d ∧ wipeE ε4 vs = E) → lcGo g mYes m vs ds E = some (ds.map f, E)
  | [], _ => rfl
  | d :: r, h => by
    obtain ⟨ε2, h1, y, ε4, h2, rfl, h4⟩ := h d (List.mem_cons_self ..)
    have ih := lcGo_map (ds := r) fun x hx => h x (List.mem_cons_of_mem _ hx)
    have hy : mYes ε2 = some (Rs.ok true, ε2) := rfl
    unfold lcGo
    simp only [h1, hy, h2, h4, ih, Option.map_some, List.map_cons]
/-- a comprehension that changes nothing -/
theorem ok_lc {g : D → Sl → Option Sl} {m : M D} {vs : List Nat} {mi : M (List D)} (f : D → D) (h : Ok mi ε fun ds e => ds.length ≤ 100000 ∧ (∀ d ∈ ds, ∃ ε2, g d (wipeE e vs) = some ε2 ∧ Ok m ε2 fun y ε4 => y = f d ∧ wipeE ε4 vs = wipeE e vs) ∧ P (.lst (ds.map f)) (wipeE e vs)) :
    Ok (mLc mi g mYes m vs) ε P := ok_bnd (h.mono fun ds e w => by
  obtain ⟨h1, h2, q⟩ := w
  refine ⟨D.lst (ds.map f), wipeE e vs, ?_, q⟩
  show (match lcGo g mYes m vs ds (wipeE e vs) with | some (l, e) => if l.length ≤ 100000 then some (Rs.ok (D.lst l), e) else none | none => none) = _
  rw [lcGo_map h2]
  exact if_pos (by rw [List.length_map]; exact h1))
end
section
variable {ε : Sl} {P : Out → Sl → Prop} {i j : Nat} {d : D} {ds : List D} {me mi : M D} {mA : M (List D)} {mc : M Bool} {m n : S}
theorem dn_nx (h : P .nx ε) : Dn sNx ε P := ⟨.nx, ε, rfl, h⟩
theorem dn_seq (h : Dn m ε fun o e => (o = .nx → Dn n e P) ∧ (o ≠ .nx → P o e)) : Dn (sSeq m n) ε P := by
  obtain ⟨o, e, h1, h2, h3⟩ := h
  by_cases z : o = .nx
  · subst z
    obtain ⟨o2, e2, q1, q2⟩ := h2 rfl
    exact ⟨o2, e2, by unfold sSeq; rw [h1]; exact q1, q2⟩
  · refine ⟨o, e, ?_, h3 z⟩
    unfold sSeq
    rw [h1]
    cases o <;> first | rfl | exact absurd rfl z
theorem dn_sNx (h : Dn m ε fun o e => o = .nx ∧ Dn n e P) : Dn (sSeq m n) ε P := by
  obtain ⟨o, e, h1, rfl, h2⟩ := h
  exact dn_seq ⟨_, e, h1, fun _ => h2, fun z => absurd rfl z⟩
theorem dn_val {f : D → S} (h : Ok me ε fun d e => Dn (f d) e P) : Dn (sVal me f) ε P := by
  obtain ⟨d, e, h1, o, e2, h2, q⟩ := h
  exact ⟨o, e2, by unfold sVal; rw [h1]; exact h2, q⟩
theorem dn_vals {f : List D → S} (h : Ok mA ε fun d e => Dn (f d) e P) : Dn (sVals mA f) ε P := by
  obtain ⟨d, e, h1, o, e2, h2, q⟩ := h
  exact ⟨o, e2, by unfold sVals; rw [h1]; exact h2, q⟩
theorem dn_set (h : Ok me ε fun d e => P .nx (e.set i (.dat d))) : Dn (sSet i me) ε P := dn_val (h.mono fun d e q => ⟨_, _, rfl, q⟩)
theorem dn_pair (h : Ok me ε fun d e => ∃ a b, d = .tup [a, b] ∧ P .nx ((e.set i (.dat a)).set j (.dat b))) : Dn (sAsg me (gvPair i j)) ε P := dn_val (h.mono fun d e q => by obtain ⟨a, b, rfl, q⟩ := q; exact ⟨_, _, rfl, q⟩)
theorem dn_par (h : Ok mA ε fun ds e => ∃ a b, ds = [a, b] ∧ P .nx ((e.set i (.dat a)).set j (.dat b))) : Dn (sPar i j mA) ε P := dn_vals (h.mono fun d e q => by obtain ⟨a, b, rfl, q⟩ := q; exact ⟨_, _, rfl, q⟩)
theorem dn_parN (h : Ok me ε fun d e => P .nx ((e.set i (.dat d)).set j (.mls []))) : Dn (sParN i j me) ε P := dn_val (h.mono fun d e q => ⟨_, _, rfl, q⟩)
theorem dn_new (h : Ok mA ε fun ds e => ds.length ≤ 1000 ∧ P .nx (e.set i (.mls ds))) : Dn (sNew i mA) ε P := dn_vals (h.mono fun d e q => ⟨_, _, if_pos q.1, q.2⟩)
theorem dn_app (e : ε[i]? = some (.mls ds)) (h : Ok me ε fun d e => ∃ es, e[i]? = some (.mls es) ∧ es.length ≤ 100000 ∧ P .nx (e.set i (.mls (es ++ [d])))) : Dn (sApp i me) ε P := by
  obtain ⟨d, e1, h1, es, h2, h3, q⟩ := h
  refine ⟨.nx, _, ?_, q⟩
  unfold sApp sVal
  rw [e]
  simp only [h1, h2, h3, if_true]
theorem dn_item (h : Ok me ε fun d e => (∃ es, e[i]? = some (.mls es)) ∧ Ok mi e fun c e2 => ∃ k es n, c = .int k ∧ e2[i]? = some (.mls es) ∧ ixN es.length k = some n ∧ P .nx (e2.set i (.mls (es.set n d)))) : Dn (sItem i me mi) ε P := by
  obtain ⟨d, e1, h1, ⟨es0, h0⟩, c, e2, h2, k, es, n, rfl, h3, h4, q⟩ := h
  refine ⟨.nx, _, ?_, q⟩
  unfold sItem sVal
  simp only [h1, h0, h2, h3, h4, Option.map_some]
theorem dn_ret (h : Ok me ε fun d e => P (.rt d) e) : Dn (sRet me) ε P := dn_val (h.mono fun d e q => ⟨_, _, rfl, q⟩)
theorem dn_retN (h : Ok mA ε fun ds e => ds.length ≤ 1000 ∧ P (.rn ds) e) : Dn (sRetN mA) ε P := dn_vals (h.mono fun d e q => ⟨_, _, if_pos q.1, q.2⟩)
theorem dn_raise {C : Addr} (h : Ok me ε fun d e => P (.ex C d) e) : Dn (sRaise C me) ε P := dn_val (h.mono fun d e q => ⟨_, _, rfl, q⟩)
theorem dn_if (h : Ok mc ε fun b e => (b = true → Dn m e P) ∧ (b = false → Dn n e P)) : Dn (sIf mc m n) ε P := by
  obtain ⟨b, e, h1, h2, h3⟩ := h
  cases b with
  | true =>
    obtain ⟨o, e2, q1, q2⟩ := h2 rfl
    exact ⟨o, e2, by unfold sIf; rw [h1]; exact q1, q2⟩
  | false =>
    obtain ⟨o, e2, q1, q2⟩ := h3 rfl
    exact ⟨o, e2, by unfold sIf; rw [h1]; exact q1, q2⟩
theorem Dn.mono {m : S} {P Q : Out → Sl → Prop} (h : Dn m ε P) (q : ∀ a e, P a e → Q a e) : Dn m ε Q := by
  obtain ⟨a, e, h1, h2⟩ := h
  exact ⟨a, e, h1, q a e h2⟩
theorem forGo_inv {gv : D → Sl → Option Sl} {body : S} {I : Nat → Sl → Prop} {P : Out → Sl → Prop} : ∀ (ds : List D) (k : Nat) (e : Sl), I k e →
    (∀ (n : Nat) (x : D) (e1 : Sl), ds[n]? = some x → I (k + n) e1 → ∃ ε2, gv x e1 = some ε2 ∧ Dn body ε2 fun o e' => (o = .nx ∧ I (k + n + 1) e') ∨ ((∃ d, o = .rt d) ∧ P o e')) → (∀ e', I (k + ds.length) e' → P .nx e') → Dn (forGo gv body ds) e P
  | [], k, e, h0, _, hz => ⟨.nx, e, rfl, hz e h0⟩
  | d :: r, k, e, h0, hs, hz => by
    obtain ⟨ε2, g1, o, e1, g2, g3⟩ := hs 0 d e rfl h0
    rcases g3 with ⟨rfl, g3⟩ | ⟨⟨v, rfl⟩, g3⟩
    · obtain ⟨o2, e2, q1, q2⟩ := forGo_inv (I := I) (P := P) r (k + 1) e1 g3 (fun n x e' hx hi => by
        have := hs (n + 1) x e' hx (by rw [show k + (n + 1) = k + 1 + n by omega]; exact hi)
        rw [show k + (n + 1) + 1 = k + 1 + n + 1 by omega] at this
        exact this) fun e' hi => hz e' (by rw [show k + (d :: r).length = k + 1 + r.length by simp; omega]; exact hi)
      exact ⟨o2, e2, by unfold forGo; simp only [g1, g2]; exact q1, q2⟩
    · exact ⟨_, e1, by unfold forGo; simp only [g1, g2], g3⟩
theorem dn_for {gv : D → Sl → Option Sl} {body : S} {mi : M (List D)} (h : Ok mi ε fun ds e => ∃ I : Nat → Sl → Prop, I 0 e ∧
    (∀ (n : Nat) (x : D) (e1 : Sl), ds[n]? = some x → I n e1 → ∃ ε2, gv x e1 = some ε2 ∧ Dn body ε2 fun o e' => (o = .nx ∧ I (n + 1) e') ∨ ((∃ d, o = .rt d) ∧ P o e')) ∧ (∀ e', I ds.length e' → P .nx e')) : Dn (sFor mi gv body) ε P :=
  dn_vals (h.mono fun ds e w => by
    obtain ⟨I, h0, hs, hz⟩ := w
    exact forGo_inv ds 0 e h0 (fun n x e1 hx hi => by rw [Nat.zero_add] at hi ⊢; exact hs n x e1 hx hi) fun e' hi => hz e' (by rw [Nat.zero_add] at hi; exact hi))
/-! ### the ends -/
theorem runX_of {n : Nat} {ds : List D} {P : D → Prop} (h : Dn m (startE n ds) fun o e => ∃ d, o = .rt d ∧ P d) : ∃ d, runX n m ds = some (.ok d) ∧ P d := by
  obtain ⟨o, e, h1, d, rfl, q⟩ := h
  exact ⟨d, by unfold runX; rw [h1], q⟩
theorem runY_of {n : Nat} {ms ds : List D} {P : D → List D → Prop} (h : Dn m (startS n (.mls ms) ds) fun o e => ∃ d, o = .rt d ∧ ∃ ms', e[(0 : Nat)]? = some (.mls ms') ∧ P d ms') : ∃ d ms', runY n m ms ds = some (d, ms') ∧ P d ms' := by
  obtain ⟨o, e, h1, d, rfl, ms', h2, q⟩ := h
  refine ⟨d, ms', ?_, q⟩
  unfold runY mls0
  rw [h1]
  simp only [h2, Option.map_some]
theorem runZ_of {n : Nat} {ds : List D} {P : List D → Prop} (h : Dn m (startE n ds) fun o e => ∃ l, o = .rn l ∧ P l) : ∃ l, runZ n m ds = some l ∧ P l := by
  obtain ⟨o, e, h1, d, rfl, q⟩ := h
  exact ⟨d, by unfold runZ; rw [h1], q⟩
theorem arX_at {α : Type} {k : Nat} {m : List D → Option α} {ds : List D} (h : ds.length = k) : arX k m ds = m ds := if_pos h
theorem arY_at {α : Type} {k : Nat} {m : List D → List D → Option α} {ms ds : List D} (h : ds.length = k) : arY k m ms ds = m ms ds := if_pos h
end
theorem fnX {m : S} {n k : Nat} {ds : List D} {P : D → Prop} (hk : ds.length = k) (h : Dn m (startE n ds) fun o e => ∃ d, o = .rt d ∧ P d) : ∃ d, arX k (runX n m) ds = some (.ok d) ∧ P d := by
  rw [arX_at hk]; exact runX_of h
theorem fnY {m : S} {n k : Nat} {ms ds : List D} {P : D → List D → Prop} (hk : ds.length = k) (h : Dn m (startS n (.mls ms) ds) fun o e => ∃ d, o = .rt d ∧ ∃ ms', e[(0 : Nat)]? = some (.mls ms') ∧ P d ms') : ∃ d ms', arY k (runY n m) ms ds = some (d, ms') ∧ P d ms' := by
  rw [arY_at hk]; exact runY_of h
theorem fnZ {m : S} {n k : Nat} {ds : List D} {P : List D → Prop} (hk : ds.length = k) (h : Dn m (startE n ds) fun o e => ∃ l, o = .rn l ∧ P l) : ∃ l, arX k (runZ n m) ds = some l ∧ P l := by
  rw [arX_at hk]; exact runZ_of h
section
variable {ε : Sl} {P : Out → Sl → Prop} {i j : Nat} {d : D} {ds : List D} {me mi : M D} {mA : M (List D)} {n : S}
theorem sq_set (h : Ok me ε fun d e => Dn n (e.set i (.dat d)) P) : Dn (sSeq (sSet i me) n) ε P := dn_sNx (dn_set (h.mono fun _ _ q => ⟨rfl, q⟩))
theorem sq_pair (h : Ok me ε fun d e => ∃ a b, d = .tup [a, b] ∧ Dn n ((e.set i (.dat a)).set j (.dat b)) P) : Dn (sSeq (sAsg me (gvPair i j)) n) ε P := dn_sNx (dn_pair (h.mono fun _ _ ⟨a, b, r, q⟩ => ⟨a, b, r, rfl, q⟩))
theorem sq_par (h : Ok mA ε fun ds e => ∃ a b, ds = [a, b] ∧ Dn n ((e.set i (.dat a)).set j (.dat b)) P) : Dn (sSeq (sPar i j mA) n) ε P := dn_sNx (dn_par (h.mono fun _ _ ⟨a, b, r, q⟩ => ⟨a, b, r, rfl, q⟩))
theorem sq_parN (h : Ok me ε fun d e => Dn n ((e.set i (.dat d)).set j (.mls [])) P) : Dn (sSeq (sParN i j me) n) ε P := dn_sNx (dn_parN (h.mono fun _ _ q => ⟨rfl, q⟩))
theorem sq_new (h : Ok mA ε fun ds e => ds.length ≤ 1000 ∧ Dn n (e.set i (.mls ds)) P) : Dn (sSeq (sNew i mA) n) ε P := dn_sNx (dn_new (h.mono fun _ _ q => ⟨q.1, rfl, q.2⟩))
theorem sq_app (e : ε[i]? = some (.mls ds)) (h : Ok me ε fun d e => ∃ es, e[i]? = some (.mls es) ∧ es.length ≤ 100000 ∧ Dn n (e.set i (.mls (es ++ [d]))) P) : Dn (sSeq (sApp i me) n) ε P := dn_sNx (dn_app e (h.mono fun _ _ ⟨es, a, b, q⟩ => ⟨es, a, b, rfl, q⟩))
theorem sq_item (h : Ok me ε fun d e => (∃ es, e[i]? = some (.mls es)) ∧ Ok mi e fun c e2 => ∃ k es m, c = .int k ∧ e2[i]? = some (.mls es) ∧ ixN es.length k = some m ∧ Dn n (e2.set i (.mls (es.set m d))) P) : Dn (sSeq (sItem i me mi) n) ε P :=
  dn_sNx (dn_item (h.mono fun _ _ ⟨x, y⟩ => ⟨x, y.mono fun _ _ ⟨k, es, m, a, b, c, q⟩ => ⟨k, es, m, a, b, c, rfl, q⟩⟩))
end
end Wd
namespace L02
open PySem L2 Wd
/-! ### draws -/
/-- a pot that was drawn from so often at most -/
def Pot (k : Int) (ms : List D) : Prop := ∃ a b c : Int, ms = [.int a, .int b, .int c] ∧ 0 ≤ a ∧ 0 ≤ b ∧ b < 2 ^ 62 ∧ 0 ≤ c ∧ c ≤ k
theorem Pot.mono {k k' : Int} {ms : List D} (h : Pot k ms) (q : k ≤ k') : Pot k' ms := by
  obtain ⟨a, b, c, e, h1, h2, h3, h4, h5⟩ := h
  exact ⟨a, b, c, e, h1, h2, h3, h4, by omega⟩
theorem sml_of {i : Int} (h : 0 ≤ i) (q : i < 2 ^ 64) : smlI i = true := by
  unfold smlI
  simp only [Bool.and_eq_true, decide_eq_true_eq]
  omega
theorem mul_ii {i j : Int} (h : 0 ≤ i) (q : i < 2 ^ 64) : mulX (.int i) (.int j) = some (.int (i * j)) := by
  show mulF (.int i) (.int j) = _
  unfold mulF
  simp only [sml_of h q, Bool.true_or, if_true]
theorem mul_ij {i j : Int} (h : 0 ≤ j) (q : j < 2 ^ 64) : mulX (.int i) (.int j) = some (.int (i * j)) := by
  show mulF (.int i) (.int j) = _
  unfold mulF
  simp only [sml_of h q, Bool.or_true, Bool.true_or, if_true]
theorem mod_ii {i j : Int} (h : 0 < j) : modF (.int i) (.int j) = some (.int (i % j)) := if_pos h
theorem div_ii {i j : Int} (h : 0 < j) (q : j < 1073741824) : divF (.int i) (.int j) = some (.int (i / j)) := by
  show (if (decide (0 < j) && decide (j < 1073741824)) = true then some (D.int (i / j)) else none) = _
  rw [decide_eq_true h, decide_eq_true q]
  rfl
theorem pow_ii {i j : Int} (h : 0 ≤ j) (q : j ≤ 1000) (r : i.natAbs < 2 ^ 2000) : powF (.int i) (.int j) = some (.int (i ^ j.toNat)) := by
  show (if (decide (0 ≤ j) && decide (j ≤ 1000) && decide (i.natAbs < 2 ^ 2000)) = true then some (D.int (i ^ j.toNat)) else none) = _
  rw [decide_eq_true h, decide_eq_true q, decide_eq_true r]
  rfl
theorem at5 {x : Int} (h0 : 0 ≤ x) (h1 : x < 5) (l : List D) (hl : l.length = 5) : ∃ d, ixF (.lst l) (.int x) = some d ∧ d ∈ l := by
  have : x.toNat < l.length := by omega
  refine ⟨l[x.toNat], ?_, List.getElem_mem this⟩
  show atI l x = _
  unfold atI ixN
  rw [if_pos h0, if_pos (by omega)]
  exact List.getElem?_eq_getElem this
theorem take_ok {A : Adr} {k u : Int} {ms : List D} (p : Pot k ms) (hk : k < 2 ^ 40) (h0 : 0 < u) (h1 : u < 1073741824) : ∃ d ms', m__law_take A ms [.int u] = some (d, ms') ∧ (∃ v, d = .int v ∧ 0 ≤ v ∧ v < u) ∧ Pot (k + 1) ms' := by
  obtain ⟨a, b, c, rfl, ha, hb, hb2, hc, hck⟩ := p
  unfold m__law_take
  refine fnY rfl (P := fun d ms' => (∃ v, d = .int v ∧ 0 ≤ v ∧ v < u) ∧ Pot (k + 1) ms') ?_
  refine dn_seq (dn_if ?_)
  repeat (first | with_reducible refine ok_op ?_ | with_reducible refine ok_un ?_ | with_reducible refine ok_cb ?_ | with_reducible refine ok_cons ?_ | with_reducible refine ok_nil ?_ | with_reducible refine ok_giv ?_ | with_reducible refine ok_lst ?_ | with_reducible refine ok_tup ?_ | with_reducible refine ok_dic ?_ | with_reducible refine ok_bool ?_ | with_reducible refine ok_not ?_ | with_reducible refine ok_notV ?_ | with_reducible refine ok_sl ?_ | with_reducible refine ok_part ?_ | with_reducible refine ok_join ?_ | with_reducible refine ok_it ?_ | with_reducible refine ok_itA ?_ | with_reducible refine ok_call0 ?_ | with_reducible refine ok_callN ?_ | with_reducible refine ok_chain ?_ | ((with_reducible apply ok_var); rfl) | ((with_reducible apply ok_varL); rfl) | ((with_reducible apply ok_ixN); rfl) | ((with_reducible apply ok_ixM); rfl) | ((with_reducible apply ok_lenN); rfl) | ((with_reducible apply ok_lenM); rfl) | ((with_reducible apply ok_callY); rfl) | with_reducible refine dn_set ?_ | with_reducible refine dn_ret ?_ | with_reducible refine dn_retN ?_ | with_reducible refine dn_new ?_ | with_reducible refine dn_parN ?_ | with_reducible refine dn_par ?_ | with_reducible refine dn_pair ?_ | with_reducible refine dn_raise ?_ | ((with_reducible apply dn_app); rfl) | with_reducible refine dn_item ?_ | with_reducible refine sq_set ?_ | with_reducible refine sq_pair ?_ | with_reducible refine sq_par ?_ | with_reducible refine sq_parN ?_ | with_reducible refine sq_new ?_ | with_reducible refine sq_item ?_ | ((with_reducible apply sq_app); rfl) | refine ⟨_, _, _, rfl, rfl, rfl, ?_⟩ | refine ⟨_, rfl, ?_⟩ | refine ⟨⟨_, rfl⟩, ?_⟩ | refine ⟨Nat.le_of_ble_eq_true rfl, ?_⟩)
  refine ⟨fun hp => ?_, fun hn => dn_nx ⟨fun _ => ?_, fun z => absurd rfl z⟩⟩
  · repeat (first | with_reducible refine ok_op ?_ | with_reducible refine ok_un ?_ | with_reducible refine ok_cb ?_ | with_reducible refine ok_cons ?_ | with_reducible refine ok_nil ?_ | with_reducible refine ok_giv ?_ | with_reducible refine ok_lst ?_ | with_reducible refine ok_tup ?_ | with_reducible refine ok_dic ?_ | with_reducible refine ok_bool ?_ | with_reducible refine ok_not ?_ | with_reducible refine ok_notV ?_ | with_reducible refine ok_sl ?_ | with_reducible refine ok_part ?_ | with_reducible refine ok_join ?_ | with_reducible refine ok_it ?_ | with_reducible refine ok_itA ?_ | with_reducible refine ok_call0 ?_ | with_reducible refine ok_callN ?_ | with_reducible refine ok_chain ?_ | ((with_reducible apply ok_var); rfl) | ((with_reducible apply ok_varL); rfl) | ((with_reducible apply ok_ixN); rfl) | ((with_reducible apply ok_ixM); rfl) | ((with_reducible apply ok_lenN); rfl) | ((with_reducible apply ok_lenM); rfl) | ((with_reducible apply ok_callY); rfl) | with_reducible refine dn_set ?_ | with_reducible refine dn_ret ?_ | with_reducible refine dn_retN ?_ | with_reducible refine dn_new ?_ | with_reducible refine dn_parN ?_ | with_reducible refine dn_par ?_ | with_reducible refine dn_pair ?_ | with_reducible refine dn_raise ?_ | ((with_reducible apply dn_app); rfl) | with_reducible refine dn_item ?_ | with_reducible refine sq_set ?_ | with_reducible refine sq_pair ?_ | with_reducible refine sq_par ?_ | with_reducible refine sq_parN ?_ | with_reducible refine sq_new ?_ | with_reducible refine sq_item ?_ | ((with_reducible apply sq_app); rfl) | refine ⟨_, _, _, rfl, rfl, rfl, ?_⟩ | refine ⟨_, rfl, ?_⟩ | refine ⟨⟨_, rfl⟩, ?_⟩ | refine ⟨Nat.le_of_ble_eq_true rfl, ?_⟩)
    refine ⟨_, mod_ii h0, ?_⟩
    repeat (first | with_reducible refine ok_op ?_ | with_reducible refine ok_un ?_ | with_reducible refine ok_cb ?_ | with_reducible refine ok_cons ?_ | with_reducible refine ok_nil ?_ | with_reducible refine ok_giv ?_ | with_reducible refine ok_lst ?_ | with_reducible refine ok_tup ?_ | with_reducible refine ok_dic ?_ | with_reducible refine ok_bool ?_ | with_reducible refine ok_not ?_ | with_reducible refine ok_notV ?_ | with_reducible refine ok_sl ?_ | with_reducible refine ok_part ?_ | with_reducible refine ok_join ?_ | with_reducible refine ok_it ?_ | with_reducible refine ok_itA ?_ | with_reducible refine ok_call0 ?_ | with_reducible refine ok_callN ?_ | with_reducible refine ok_chain ?_ | ((with_reducible apply ok_var); rfl) | ((with_reducible apply ok_varL); rfl) | ((with_reducible apply ok_ixN); rfl) | ((with_reducible apply ok_ixM); rfl) | ((with_reducible apply ok_lenN); rfl) | ((with_reducible apply ok_lenM); rfl) | ((with_reducible apply ok_callY); rfl) | with_reducible refine dn_set ?_ | with_reducible refine dn_ret ?_ | with_reducible refine dn_retN ?_ | with_reducible refine dn_new ?_ | with_reducible refine dn_parN ?_ | with_reducible refine dn_par ?_ | with_reducible refine dn_pair ?_ | with_reducible refine dn_raise ?_ | ((with_reducible apply dn_app); rfl) | with_reducible refine dn_item ?_ | with_reducible refine sq_set ?_ | with_reducible refine sq_pair ?_ | with_reducible refine sq_par ?_ | with_reducible refine sq_parN ?_ | with_reducible refine sq_new ?_ | with_reducible refine sq_item ?_ | ((with_reducible apply sq_app); rfl) | refine ⟨_, _, _, rfl, rfl, rfl, ?_⟩ | refine ⟨_, rfl, ?_⟩ | refine ⟨⟨_, rfl⟩, ?_⟩ | refine ⟨Nat.le_of_ble_eq_true rfl, ?_⟩)
    refine ⟨_, div_ii h0 h1, ?_⟩
    repeat (first | with_reducible refine ok_op ?_ | with_reducible refine ok_un ?_ | with_reducible refine ok_cb ?_ | with_reducible refine ok_cons ?_ | with_reducible refine ok_nil ?_ | with_reducible refine ok_giv ?_ | with_reducible refine ok_lst ?_ | with_reducible refine ok_tup ?_ | with_reducible refine ok_dic ?_ | with_reducible refine ok_bool ?_ | with_reducible refine ok_not ?_ | with_reducible refine ok_notV ?_ | with_reducible refine ok_sl ?_ | with_reducible refine ok_part ?_ | with_reducible refine ok_join ?_ | with_reducible refine ok_it ?_ | with_reducible refine ok_itA ?_ | with_reducible refine ok_call0 ?_ | with_reducible refine ok_callN ?_ | with_reducible refine ok_chain ?_ | ((with_reducible apply ok_var); rfl) | ((with_reducible apply ok_varL); rfl) | ((with_reducible apply ok_ixN); rfl) | ((with_reducible apply ok_ixM); rfl) | ((with_reducible apply ok_lenN); rfl) | ((with_reducible apply ok_lenM); rfl) | ((with_reducible apply ok_callY); rfl) | with_reducible refine dn_set ?_ | with_reducible refine dn_ret ?_ | with_reducible refine dn_retN ?_ | with_reducible refine dn_new ?_ | with_reducible refine dn_parN ?_ | with_reducible refine dn_par ?_ | with_reducible refine dn_pair ?_ | with_reducible refine dn_raise ?_ | ((with_reducible apply dn_app); rfl) | with_reducible refine dn_item ?_ | with_reducible refine sq_set ?_ | with_reducible refine sq_pair ?_ | with_reducible refine sq_par ?_ | with_reducible refine sq_parN ?_ | with_reducible refine sq_new ?_ | with_reducible refine sq_item ?_ | ((with_reducible apply sq_app); rfl) | refine ⟨_, _, _, rfl, rfl, rfl, ?_⟩ | refine ⟨_, rfl, ?_⟩ | refine ⟨⟨_, rfl⟩, ?_⟩ | refine ⟨Nat.le_of_ble_eq_true rfl, ?_⟩)
    exact ⟨fun z => (nomatch z), fun _ => ⟨_, rfl, _, rfl, ⟨_, rfl, Int.emod_nonneg _ (by omega), Int.emod_lt_of_pos _ h0⟩, _, _, _, rfl, Int.ediv_nonneg ha (by omega), hb, hb2, hc, by omega⟩⟩
  · have hc1 : 0 ≤ c + 1 := by omega
    have hc2 : c + 1 < 2 ^ 41 := by omega
    obtain ⟨q, hq, hm⟩ := at5 (x := (c + 1) % 5) (Int.emod_nonneg _ (by decide)) (Int.emod_lt_of_pos _ (by decide)) [.int 2147483647, .int 2147483629, .int 2147483587, .int 2147483579, .int 2147483563] rfl
    obtain ⟨r, rfl, r0, r1⟩ : ∃ r : Int, q = .int r ∧ 0 < r ∧ r < 2 ^ 31 := by
      simp only [List.mem_cons, List.not_mem_nil, or_false] at hm
      rcases hm with rfl | rfl | rfl | rfl | rfl <;> exact ⟨_, rfl, by decide, by decide⟩
    have hsq : 0 ≤ (c + 1) * (c + 1) := Int.mul_nonneg hc1 hc1
    have hsq2 : (c + 1) * (c + 1) < 2 ^ 82 := by
      have : (c + 1) * (c + 1) ≤ (2 ^ 41 - 1) * (2 ^ 41 - 1) := Int.mul_le_mul (by omega) (by omega) hc1 (by decide)
      omega
    have hbig : b + 101107 * (c + 1) * (c + 1) + 43 = b + 101107 * ((c + 1) * (c + 1)) + 43 := by rw [Int.mul_assoc]
    have hb1 : (b + 101107 * (c + 1) * (c + 1) + 43).natAbs < 2 ^ 2000 := by
      have h3 : (b + 101107 * (c + 1) * (c + 1) + 43).natAbs < 2 ^ 100 := by omega
      exact Nat.lt_of_lt_of_le h3 (Nat.pow_le_pow_right (by decide) (by decide))
    have hs0 : 0 ≤ (b + 101107 * (c + 1) * (c + 1) + 43) ^ (3 : Int).toNat % r := Int.emod_nonneg _ (by omega)
    have hs1 : (b + 101107 * (c + 1) * (c + 1) + 43) ^ (3 : Int).toNat % r < r := Int.emod_lt_of_pos _ r0
    repeat (first | with_reducible refine ok_op ?_ | with_reducible refine ok_un ?_ | with_reducible refine ok_cb ?_ | with_reducible refine ok_cons ?_ | with_reducible refine ok_nil ?_ | with_reducible refine ok_giv ?_ | with_reducible refine ok_lst ?_ | with_reducible refine ok_tup ?_ | with_reducible refine ok_dic ?_ | with_reducible refine ok_bool ?_ | with_reducible refine ok_not ?_ | with_reducible refine ok_notV ?_ | with_reducible refine ok_sl ?_ | with_reducible refine ok_part ?_ | with_reducible refine ok_join ?_ | with_reducible refine ok_it ?_ | with_reducible refine ok_itA ?_ | with_reducible refine ok_call0 ?_ | with_reducible refine ok_callN ?_ | with_reducible refine ok_chain ?_ | ((with_reducible apply ok_var); rfl) | ((with_reducible apply ok_varL); rfl) | ((with_reducible apply ok_ixN); rfl) | ((with_reducible apply ok_ixM); rfl) | ((with_reducible apply ok_lenN); rfl) | ((with_reducible apply ok_lenM); rfl) | ((with_reducible apply ok_callY); rfl) | with_reducible refine dn_set ?_ | with_reducible refine dn_ret ?_ | with_reducible refine dn_retN ?_ | with_reducible refine dn_new ?_ | with_reducible refine dn_parN ?_ | with_reducible refine dn_par ?_ | with_reducible refine dn_pair ?_ | with_reducible refine dn_raise ?_ | ((with_reducible apply dn_app); rfl) | with_reducible refine dn_item ?_ | with_reducible refine sq_set ?_ | with_reducible refine sq_pair ?_ | with_reducible refine sq_par ?_ | with_reducible refine sq_parN ?_ | with_reducible refine sq_new ?_ | with_reducible refine sq_item ?_ | ((with_reducible apply sq_app); rfl) | refine ⟨_, _, _, rfl, rfl, rfl, ?_⟩ | refine ⟨_, rfl, ?_⟩ | refine ⟨⟨_, rfl⟩, ?_⟩ | refine ⟨Nat.le_of_ble_eq_true rfl, ?_⟩)
    refine ⟨_, hq, ?_⟩
    repeat (first | with_reducible refine ok_op ?_ | with_reducible refine ok_un ?_ | with_reducible refine ok_cb ?_ | with_reducible refine ok_cons ?_ | with_reducible refine ok_nil ?_ | with_reducible refine ok_giv ?_ | with_reducible refine ok_lst ?_ | with_reducible refine ok_tup ?_ | with_reducible refine ok_dic ?_ | with_reducible refine ok_bool ?_ | with_reducible refine ok_not ?_ | with_reducible refine ok_notV ?_ | with_reducible refine ok_sl ?_ | with_reducible refine ok_part ?_ | with_reducible refine ok_join ?_ | with_reducible refine ok_it ?_ | with_reducible refine ok_itA ?_ | with_reducible refine ok_call0 ?_ | with_reducible refine ok_callN ?_ | with_reducible refine ok_chain ?_ | ((with_reducible apply ok_var); rfl) | ((with_reducible apply ok_varL); rfl) | ((with_reducible apply ok_ixN); rfl) | ((with_reducible apply ok_ixM); rfl) | ((with_reducible apply ok_lenN); rfl) | ((with_reducible apply ok_lenM); rfl) | ((with_reducible apply ok_callY); rfl) | with_reducible refine dn_set ?_ | with_reducible refine dn_ret ?_ | with_reducible refine dn_retN ?_ | with_reducible refine dn_new ?_ | with_reducible refine dn_parN ?_ | with_reducible refine dn_par ?_ | with_reducible refine dn_pair ?_ | with_reducible refine dn_raise ?_ | ((with_reducible apply dn_app); rfl) | with_reducible refine dn_item ?_ | with_reducible refine sq_set ?_ | with_reducible refine sq_pair ?_ | with_reducible refine sq_par ?_ | with_reducible refine sq_parN ?_ | with_reducible refine sq_new ?_ | with_reducible refine sq_item ?_ | ((with_reducible apply sq_app); rfl) | refine ⟨_, _, _, rfl, rfl, rfl, ?_⟩ | refine ⟨_, rfl, ?_⟩ | refine ⟨⟨_, rfl⟩, ?_⟩ | refine ⟨Nat.le_of_ble_eq_true rfl, ?_⟩)
    refine ⟨_, mul_ij hc1 (by omega), ?_⟩
    repeat (first | with_reducible refine ok_op ?_ | with_reducible refine ok_un ?_ | with_reducible refine ok_cb ?_ | with_reducible refine ok_cons ?_ | with_reducible refine ok_nil ?_ | with_reducible refine ok_giv ?_ | with_reducible refine ok_lst ?_ | with_reducible refine ok_tup ?_ | with_reducible refine ok_dic ?_ | with_reducible refine ok_bool ?_ | with_reducible refine ok_not ?_ | with_reducible refine ok_notV ?_ | with_reducible refine ok_sl ?_ | with_reducible refine ok_part ?_ | with_reducible refine ok_join ?_ | with_reducible refine ok_it ?_ | with_reducible refine ok_itA ?_ | with_reducible refine ok_call0 ?_ | with_reducible refine ok_callN ?_ | with_reducible refine ok_chain ?_ | ((with_reducible apply ok_var); rfl) | ((with_reducible apply ok_varL); rfl) | ((with_reducible apply ok_ixN); rfl) | ((with_reducible apply ok_ixM); rfl) | ((with_reducible apply ok_lenN); rfl) | ((with_reducible apply ok_lenM); rfl) | ((with_reducible apply ok_callY); rfl) | with_reducible refine dn_set ?_ | with_reducible refine dn_ret ?_ | with_reducible refine dn_retN ?_ | with_reducible refine dn_new ?_ | with_reducible refine dn_parN ?_ | with_reducible refine dn_par ?_ | with_reducible refine dn_pair ?_ | with_reducible refine dn_raise ?_ | ((with_reducible apply dn_app); rfl) | with_reducible refine dn_item ?_ | with_reducible refine sq_set ?_ | with_reducible refine sq_pair ?_ | with_reducible refine sq_par ?_ | with_reducible refine sq_parN ?_ | with_reducible refine sq_new ?_ | with_reducible refine sq_item ?_ | ((with_reducible apply sq_app); rfl) | refine ⟨_, _, _, rfl, rfl, rfl, ?_⟩ | refine ⟨_, rfl, ?_⟩ | refine ⟨⟨_, rfl⟩, ?_⟩ | refine ⟨Nat.le_of_ble_eq_true rfl, ?_⟩)
    refine ⟨_, pow_ii (by decide) (by decide) hb1, ?_⟩
    repeat (first | with_reducible refine ok_op ?_ | with_reducible refine ok_un ?_ | with_reducible refine ok_cb ?_ | with_reducible refine ok_cons ?_ | with_reducible refine ok_nil ?_ | with_reducible refine ok_giv ?_ | with_reducible refine ok_lst ?_ | with_reducible refine ok_tup ?_ | with_reducible refine ok_dic ?_ | with_reducible refine ok_bool ?_ | with_reducible refine ok_not ?_ | with_reducible refine ok_notV ?_ | with_reducible refine ok_sl ?_ | with_reducible refine ok_part ?_ | with_reducible refine ok_join ?_ | with_reducible refine ok_it ?_ | with_reducible refine ok_itA ?_ | with_reducible refine ok_call0 ?_ | with_reducible refine ok_callN ?_ | with_reducible refine ok_chain ?_ | ((with_reducible apply ok_var); rfl) | ((with_reducible apply ok_varL); rfl) | ((with_reducible apply ok_ixN); rfl) | ((with_reducible apply ok_ixM); rfl) | ((with_reducible apply ok_lenN); rfl) | ((with_reducible apply ok_lenM); rfl) | ((with_reducible apply ok_callY); rfl) | with_reducible refine dn_set ?_ | with_reducible refine dn_ret ?_ | with_reducible refine dn_retN ?_ | with_reducible refine dn_new ?_ | with_reducible refine dn_parN ?_ | with_reducible refine dn_par ?_ | with_reducible refine dn_pair ?_ | with_reducible refine dn_raise ?_ | ((with_reducible apply dn_app); rfl) | with_reducible refine dn_item ?_ | with_reducible refine sq_set ?_ | with_reducible refine sq_pair ?_ | with_reducible refine sq_par ?_ | with_reducible refine sq_parN ?_ | with_reducible refine sq_new ?_ | with_reducible refine sq_item ?_ | ((with_reducible apply sq_app); rfl) | refine ⟨_, _, _, rfl, rfl, rfl, ?_⟩ | refine ⟨_, rfl, ?_⟩ | refine ⟨⟨_, rfl⟩, ?_⟩ | refine ⟨Nat.le_of_ble_eq_true rfl, ?_⟩)
    refine ⟨_, mod_ii r0, ?_⟩
    repeat (first | with_reducible refine ok_op ?_ | with_reducible refine ok_un ?_ | with_reducible refine ok_cb ?_ | with_reducible refine ok_cons ?_ | with_reducible refine ok_nil ?_ | with_reducible refine ok_giv ?_ | with_reducible refine ok_lst ?_ | with_reducible refine ok_tup ?_ | with_reducible refine ok_dic ?_ | with_reducible refine ok_bool ?_ | with_reducible refine ok_not ?_ | with_reducible refine ok_notV ?_ | with_reducible refine ok_sl ?_ | with_reducible refine ok_part ?_ | with_reducible refine ok_join ?_ | with_reducible refine ok_it ?_ | with_reducible refine ok_itA ?_ | with_reducible refine ok_call0 ?_ | with_reducible refine ok_callN ?_ | with_reducible refine ok_chain ?_ | ((with_reducible apply ok_var); rfl) | ((with_reducible apply ok_varL); rfl) | ((with_reducible apply ok_ixN); rfl) | ((with_reducible apply ok_ixM); rfl) | ((with_reducible apply ok_lenN); rfl) | ((with_reducible apply ok_lenM); rfl) | ((with_reducible apply ok_callY); rfl) | with_reducible refine dn_set ?_ | with_reducible refine dn_ret ?_ | with_reducible refine dn_retN ?_ | with_reducible refine dn_new ?_ | with_reducible refine dn_parN ?_ | with_reducible refine dn_par ?_ | with_reducible refine dn_pair ?_ | with_reducible refine dn_raise ?_ | ((with_reducible apply dn_app); rfl) | with_reducible refine dn_item ?_ | with_reducible refine sq_set ?_ | with_reducible refine sq_pair ?_ | with_reducible refine sq_par ?_ | with_reducible refine sq_parN ?_ | with_reducible refine sq_new ?_ | with_reducible refine sq_item ?_ | ((with_reducible apply sq_app); rfl) | refine ⟨_, _, _, rfl, rfl, rfl, ?_⟩ | refine ⟨_, rfl, ?_⟩ | refine ⟨⟨_, rfl⟩, ?_⟩ | refine ⟨Nat.le_of_ble_eq_true rfl, ?_⟩)
    refine ⟨_, mul_ii hs0 (by omega), ?_⟩
    repeat (first | with_reducible refine ok_op ?_ | with_reducible refine ok_un ?_ | with_reducible refine ok_cb ?_ | with_reducible refine ok_cons ?_ | with_reducible refine ok_nil ?_ | with_reducible refine ok_giv ?_ | with_reducible refine ok_lst ?_ | with_reducible refine ok_tup ?_ | with_reducible refine ok_dic ?_ | with_reducible refine ok_bool ?_ | with_reducible refine ok_not ?_ | with_reducible refine ok_notV ?_ | with_reducible refine ok_sl ?_ | with_reducible refine ok_part ?_ | with_reducible refine ok_join ?_ | with_reducible refine ok_it ?_ | with_reducible refine ok_itA ?_ | with_reducible refine ok_call0 ?_ | with_reducible refine ok_callN ?_ | with_reducible refine ok_chain ?_ | ((with_reducible apply ok_var); rfl) | ((with_reducible apply ok_varL); rfl) | ((with_reducible apply ok_ixN); rfl) | ((with_reducible apply ok_ixM); rfl) | ((with_reducible apply ok_lenN); rfl) | ((with_reducible apply ok_lenM); rfl) | ((with_reducible apply ok_callY); rfl) | with_reducible refine dn_set ?_ | with_reducible refine dn_ret ?_ | with_reducible refine dn_retN ?_ | with_reducible refine dn_new ?_ | with_reducible refine dn_parN ?_ | with_reducible refine dn_par ?_ | with_reducible refine dn_pair ?_ | with_reducible refine dn_raise ?_ | ((with_reducible apply dn_app); rfl) | with_reducible refine dn_item ?_ | with_reducible refine sq_set ?_ | with_reducible refine sq_pair ?_ | with_reducible refine sq_par ?_ | with_reducible refine sq_parN ?_ | with_reducible refine sq_new ?_ | with_reducible refine sq_item ?_ | ((with_reducible apply sq_app); rfl) | refine ⟨_, _, _, rfl, rfl, rfl, ?_⟩ | refine ⟨_, rfl, ?_⟩ | refine ⟨⟨_, rfl⟩, ?_⟩ | refine ⟨Nat.le_of_ble_eq_true rfl, ?_⟩)
    refine ⟨_, mod_ii h0, ?_⟩
    exact ⟨_, rfl, _, rfl, ⟨_, rfl, Int.emod_nonneg _ (by omega), Int.emod_lt_of_pos _ h0⟩, _, _, _, rfl, ha, hb, hb2, hc1, by omega⟩
end L02
namespace L02
open PySem L2 Wd
/-! ### values that the law may show -/
def St (x : Str) : Prop := x.length ≤ 30 ∧ ∀ c ∈ x.cps.toList, c < 1114112
inductive Bd : Nat → D → Prop
  | non (k : Nat) : Bd k .non
  | bl (k : Nat) (b : Bool) : Bd k (.bl b)
  | int (k : Nat) (i : Int) (h : i.natAbs ≤ 1000000000) : Bd k (.int i)
  | str (k : Nat) (x : Str) (h : St x) : Bd k (.str x)
  | tup (k : Nat) (ds : List D) (hl : ds.length ≤ 30) (h : ∀ d ∈ ds, Bd k d) : Bd (k + 1) (.tup ds)
  | lst (k : Nat) (ds : List D) (hl : ds.length ≤ 30) (h : ∀ d ∈ ds, Bd k d) : Bd (k + 1) (.lst ds)
  | di0 (k : Nat) : Bd (k + 1) (.dic [])
  | di1 (k : Nat) : Bd (k + 1) (.dic [(.inr "row", .int 0)])
  | big (k : Nat) (x : Str) (h : x.length ≤ 1000) (q : ∀ c ∈ x.cps.toList, c < 1114112) : Bd (k + 3) (.str x)
def Ln : Nat → Nat
  | 0 => 302
  | k + 1 => 30 * Ln k + 63
theorem ln_ge : ∀ k, 302 ≤ Ln k
  | 0 => Nat.le_refl _
  | k + 1 => by have := ln_ge k; unfold Ln; omega
structure Rp (k : Nat) (d : D) : Prop where
  pur : d.pur = true
  sho : d.rp.showable = true
  dep : d.rp.depth ≤ k
  len : d.rp.shown.length ≤ Ln k
theorem rp_all {k : Nat} : ∀ {ds : List D}, (∀ d ∈ ds, Rp k d) → D.purA ds = true ∧ PyData.showableAll (D.rpA ds) = true ∧ PyData.depthAll (D.rpA ds) ≤ k ∧ ((PyData.shownAll (D.rpA ds)).map (·.length)).sum ≤ ds.length * Ln k ∧ (PyData.shownAll (D.rpA ds)).length = ds.length
  | [], _ => ⟨rfl, rfl, Nat.zero_le _, Nat.zero_le _, rfl⟩
  | d :: ds, h => by
    obtain ⟨h1, h2, h3, h4, h5⟩ := rp_all (ds := ds) fun x hx => h x (List.mem_cons_of_mem _ hx)
    obtain ⟨a, b, c, e⟩ := h d (List.mem_cons_self ..)
    refine ⟨?_, ?_, ?_, ?_, ?_⟩
    · rw [D.purA, a, h1]; rfl
    · rw [D.rpA, PyData.showableAll, b, h2]; rfl
    · rw [D.rpA, PyData.depthAll]; exact Nat.max_le.mpr ⟨c, h3⟩
    · rw [D.rpA, PyData.shownAll, List.map_cons, List.sum_cons, List.length_cons, Nat.add_mul, Nat.one_mul]; omega
    · rw [D.rpA, PyData.shownAll, List.length_cons, h5, List.length_cons]
theorem log_small {n : Nat} (h : n ≤ 1000000000) : n.log2 < 1920 := by
  by_cases z : n = 0
  · subst z; decide
  · have : n < 2 ^ 30 := Nat.lt_of_le_of_lt h (by decide)
    exact Nat.lt_trans ((Nat.log2_lt z).mpr this) (by decide)
theorem bd_rp {k : Nat} {d : D} (b : Bd k d) : Rp k d := by
  induction b with
  | non k => exact ⟨rfl, rfl, Nat.zero_le _, Nat.le_trans (by decide +kernel) (ln_ge k)⟩
  | bl k b => exact ⟨rfl, rfl, Nat.zero_le _, Nat.le_trans (by cases b <;> decide +kernel) (ln_ge k)⟩
  | int k i h =>
    refine ⟨rfl, by rw [D.rp, PyData.showable]; exact decide_eq_true (log_small h), Nat.zero_le _, Nat.le_trans ?_ (ln_ge k)⟩
    rw [D.rp, PyData.shown]
    have h2 : (Str.ofString (toString i)).length = (toString i).length := ofString_length _
    have h3 : (toString i).length ≤ 10 + 1 := int_text_length_le10 (by decide) (Nat.lt_of_le_of_lt h (by decide))
    show (Str.ofString (toString i)).length ≤ 302
    omega
  | str k x h =>
    refine ⟨rfl, rfl, Nat.zero_le _, Nat.le_trans ?_ (ln_ge k)⟩
    rw [D.rp, PyData.shown]
    have := PySem.StrLaws.reprText_len x fun c hc => Nat.lt_of_lt_of_le (h.2 c hc) (by decide)
    have := h.1
    omega
  | tup k ds hl h ih =>
    obtain ⟨h1, h2, h3, h4, h5⟩ := rp_all ih
    refine ⟨by rw [D.pur]; exact h1, by rw [D.rp, PyData.showable]; exact h2, by rw [D.rp, PyData.depth]; omega, ?_⟩
    rw [D.rp, PyData.shown]
    have e := tupleText_len_le (PyData.shownAll (D.rpA ds))
    have e2 : ds.length * Ln k ≤ 30 * Ln k := Nat.mul_le_mul_right _ hl
    unfold Ln
    omega
  | lst k ds hl h ih =>
    obtain ⟨h1, h2, h3, h4, h5⟩ := rp_all ih
    refine ⟨by rw [D.pur]; exact h1, by rw [D.rp, PyData.showable]; exact h2, by rw [D.rp, PyData.depth]; omega, ?_⟩
    rw [D.rp, PyData.shown]
    have e := listText_len_le (PyData.shownAll (D.rpA ds))
    have e2 : ds.length * Ln k ≤ 30 * Ln k := Nat.mul_le_mul_right _ hl
    unfold Ln
    omega
  | di0 k => exact ⟨rfl, rfl, by rw [D.rp, D.rpK, PyData.depth, PyData.depthKv]; omega, Nat.le_trans (by decide +kernel) (ln_ge (k + 1))⟩
  | di1 k => exact ⟨rfl, by decide +kernel, by rw [D.rp, D.rpK, D.rpK, PyData.depth, PyData.depthKv, PyData.depthKv]; simp [kP, D.rp, PyData.depth], Nat.le_trans (by decide +kernel) (ln_ge (k + 1))⟩
  | big k x h q =>
    refine ⟨rfl, rfl, Nat.zero_le _, ?_⟩
    rw [D.rp, PyData.shown]
    have := PySem.StrLaws.reprText_len x fun c hc => Nat.lt_of_lt_of_le (q c hc) (by decide)
    have := ln_ge k
    show _ ≤ 30 * (30 * (30 * Ln k + 63) + 63) + 63
    omega
theorem rep_ok {d : D} (b : Bd 3 d) : ∃ z, reprX [d] = some (.str z) := by
  obtain ⟨h1, h2, h3, h4⟩ := bd_rp b
  refine ⟨d.rp.shown, ?_⟩
  show (if (d.pur && d.rp.showable && decide (d.rp.depth ≤ 60) && decide (d.rp.shown.length ≤ sizeLine)) = true then some (D.str d.rp.shown) else none) = _
  have e1 : d.rp.depth ≤ 60 := by omega
  have e2 : d.rp.shown.length ≤ sizeLine := Nat.le_trans h4 (by decide)
  rw [h1, h2, decide_eq_true e1, decide_eq_true e2]
  rfl
theorem Bd.mono {k : Nat} {d : D} (b : Bd k d) : ∀ {m : Nat}, k ≤ m → Bd m d := by
  induction b with
  | non k => intro m _; exact .non m
  | bl k b => intro m _; exact .bl m b
  | int k i h => intro m _; exact .int m i h
  | str k x h => intro m _; exact .str m x h
  | tup k ds hl h ih => intro m hm; cases m with | zero => omega | succ m => exact .tup m ds hl fun d hd => ih d hd (by omega)
  | lst k ds hl h ih => intro m hm; cases m with | zero => omega | succ m => exact .lst m ds hl fun d hd => ih d hd (by omega)
  | di0 k => intro m hm; cases m with | zero => omega | succ m => exact .di0 m
  | di1 k => intro m hm; cases m with | zero => omega | succ m => exact .di1 m
  | big k x h q => intro m hm; obtain ⟨j, rfl⟩ : ∃ j, m = j + 3 := ⟨m - 3, by omega⟩; exact .big j x h q
/-! ### one of some -/
theorem atL {l : List D} {x : Int} (h0 : 0 ≤ x) (h1 : x < l.length) : ∃ d, ixF (.lst l) (.int x) = some d ∧ d ∈ l := by
  have : x.toNat < l.length := by omega
  refine ⟨l[x.toNat], ?_, List.getElem_mem this⟩
  show atI l x = _
  unfold atI ixN
  rw [if_pos h0, if_pos (by omega)]
  exact List.getElem?_eq_getElem this
theorem atT {l : List D} {x : Int} (h0 : 0 ≤ x) (h1 : x < l.length) : ∃ d, ixF (.tup l) (.int x) = some d ∧ d ∈ l := atL h0 h1
theorem of_ok {A : Adr} {k : Int} {ms : List D} {l : List D} (p : Pot k ms) (hk : k < 2 ^ 40) (h0 : 0 < l.length) (h1 : l.length ≤ 1000) : ∃ d ms', m__law_of A ms [.lst l] = some (d, ms') ∧ d ∈ l ∧ Pot (k + 1) ms' := by
  unfold m__law_of
  refine fnY rfl (P := fun d ms' => d ∈ l ∧ Pot (k + 1) ms') ?_
  repeat (first | with_reducible refine ok_op ?_ | with_reducible refine ok_un ?_ | with_reducible refine ok_cb ?_ | with_reducible refine ok_cons ?_ | with_reducible refine ok_nil ?_ | with_reducible refine ok_giv ?_ | with_reducible refine ok_lst ?_ | with_reducible refine ok_tup ?_ | with_reducible refine ok_dic ?_ | with_reducible refine ok_bool ?_ | with_reducible refine ok_not ?_ | with_reducible refine ok_notV ?_ | with_reducible refine ok_sl ?_ | with_reducible refine ok_part ?_ | with_reducible refine ok_join ?_ | with_reducible refine ok_it ?_ | with_reducible refine ok_itA ?_ | with_reducible refine ok_call0 ?_ | with_reducible refine ok_callN ?_ | with_reducible refine ok_chain ?_ | ((with_reducible apply ok_var); rfl) | ((with_reducible apply ok_varL); rfl) | ((with_reducible apply ok_ixN); rfl) | ((with_reducible apply ok_ixM); rfl) | ((with_reducible apply ok_lenN); rfl) | ((with_reducible apply ok_lenM); rfl) | ((with_reducible apply ok_callY); rfl) | with_reducible refine dn_set ?_ | with_reducible refine dn_ret ?_ | with_reducible refine dn_retN ?_ | with_reducible refine dn_new ?_ | with_reducible refine dn_parN ?_ | with_reducible refine dn_par ?_ | with_reducible refine dn_pair ?_ | with_reducible refine dn_raise ?_ | ((with_reducible apply dn_app); rfl) | with_reducible refine dn_item ?_ | with_reducible refine sq_set ?_ | with_reducible refine sq_pair ?_ | with_reducible refine sq_par ?_ | with_reducible refine sq_parN ?_ | with_reducible refine sq_new ?_ | with_reducible refine sq_item ?_ | ((with_reducible apply sq_app); rfl) | refine ⟨_, _, _, rfl, rfl, rfl, ?_⟩ | refine ⟨_, rfl, ?_⟩ | refine ⟨⟨_, rfl⟩, ?_⟩ | refine ⟨Nat.le_of_ble_eq_true rfl, ?_⟩)
  obtain ⟨_, ms', e, ⟨v, rfl, v0, v1⟩, q⟩ := take_ok (A := A) (u := (l.length : Int)) p hk (by omega) (by omega)
  obtain ⟨d, h2, h3⟩ := atL v0 v1
  exact ⟨_, _, e, d, h2, d, rfl, ms', rfl, h3, q⟩
theorem odd_ok {A : Adr} {k : Int} {ms : List D} (p : Pot k ms) (hk : k < 2 ^ 40) : ∃ d ms', m__law_odd A ms [] = some (d, ms') ∧ (Bd 2 d ∧ ∀ x, d = .str x → x.length ≤ 10) ∧ Pot (k + 1) ms' := by
  unfold m__law_odd
  refine fnY rfl (P := fun d ms' => (Bd 2 d ∧ ∀ x, d = .str x → x.length ≤ 10) ∧ Pot (k + 1) ms') ?_
  repeat (first | with_reducible refine ok_op ?_ | with_reducible refine ok_un ?_ | with_reducible refine ok_cb ?_ | with_reducible refine ok_cons ?_ | with_reducible refine ok_nil ?_ | with_reducible refine ok_giv ?_ | with_reducible refine ok_lst ?_ | with_reducible refine ok_tup ?_ | with_reducible refine ok_dic ?_ | with_reducible refine ok_bool ?_ | with_reducible refine ok_not ?_ | with_reducible refine ok_notV ?_ | with_reducible refine ok_sl ?_ | with_reducible refine ok_part ?_ | with_reducible refine ok_join ?_ | with_reducible refine ok_it ?_ | with_reducible refine ok_itA ?_ | with_reducible refine ok_call0 ?_ | with_reducible refine ok_callN ?_ | with_reducible refine ok_chain ?_ | ((with_reducible apply ok_var); rfl) | ((with_reducible apply ok_varL); rfl) | ((with_reducible apply ok_ixN); rfl) | ((with_reducible apply ok_ixM); rfl) | ((with_reducible apply ok_lenN); rfl) | ((with_reducible apply ok_lenM); rfl) | ((with_reducible apply ok_callY); rfl) | with_reducible refine dn_set ?_ | with_reducible refine dn_ret ?_ | with_reducible refine dn_retN ?_ | with_reducible refine dn_new ?_ | with_reducible refine dn_parN ?_ | with_reducible refine dn_par ?_ | with_reducible refine dn_pair ?_ | with_reducible refine dn_raise ?_ | ((with_reducible apply dn_app); rfl) | with_reducible refine dn_item ?_ | with_reducible refine sq_set ?_ | with_reducible refine sq_pair ?_ | with_reducible refine sq_par ?_ | with_reducible refine sq_parN ?_ | with_reducible refine sq_new ?_ | with_reducible refine sq_item ?_ | ((with_reducible apply sq_app); rfl) | refine ⟨_, _, _, rfl, rfl, rfl, ?_⟩ | refine ⟨_, rfl, ?_⟩ | refine ⟨⟨_, rfl⟩, ?_⟩ | refine ⟨Nat.le_of_ble_eq_true rfl, ?_⟩)
  obtain ⟨d, ms', e, hm, q⟩ := of_ok (A := A) (l := [.non, .bl true, .bl false, .int 0, .int 1, .int (-1), .int 10, .str "", .str "o", .str "#", .str ".", .str "a", .tup [], .lst [], .dic [], .tup [.tup []], .tup [.int 0], .lst [.int 0], .tup [.str "o"], .tup [.bl true]] ++
    [.tup [.tup [.int 0, .int 0]], .tup [.str "row", .int 0], .dic [(.inr "row", .int 0)], .str "row", .tup [.int 0, .int 0, .int 0], .tup [.tup [.int 0, .int 0], .tup [.int 0, .int 0]], .int (10 ^ Int.toNat 8)]) p hk (by decide) (by decide)
  refine ⟨_, _, e, d, rfl, ms', rfl, ⟨?_, ?_⟩, q⟩
  rotate_left
  · simp only [List.cons_append, List.nil_append, List.mem_cons, List.not_mem_nil, or_false] at hm
    intro x hx
    subst hx
    simp only [reduceCtorEq, false_or, or_false, D.str.injEq] at hm
    rcases hm with rfl | rfl | rfl | rfl | rfl | rfl <;> decide
  have i0 : ∀ {k : Nat}, Bd k (.int 0) := .int _ _ (by decide)
  have s0 : ∀ {k : Nat} (x : Str), (decide (x.length ≤ 30) && x.cps.toList.all fun c => decide (c < 1114112)) = true → Bd k (.str x) := fun x h => .str _ _ (by
    simp only [Bool.and_eq_true, decide_eq_true_eq, List.all_eq_true] at h
    exact h)
  have t1 : ∀ {k : Nat} (ds : List D), (∀ d ∈ ds, Bd k d) → ds.length ≤ 30 → Bd (k + 1) (.tup ds) := fun ds h q => .tup _ _ q h
  simp only [List.cons_append, List.nil_append, List.mem_cons, List.not_mem_nil, or_false] at hm
  have n1 : ∀ {k : Nat}, ∀ d ∈ ([] : List D), Bd k d := fun d h => nomatch h
  have c1 : ∀ {k : Nat} {d : D} {ds : List D}, Bd k d → (∀ x ∈ ds, Bd k x) → ∀ x ∈ d :: ds, Bd k x := fun a b x hx => by
    rcases List.mem_cons.mp hx with rfl | hx
    · exact a
    · exact b x hx
  rcases hm with rfl | rfl | rfl | rfl | rfl | rfl | rfl | rfl | rfl | rfl | rfl | rfl | rfl | rfl | rfl | rfl | rfl | rfl | rfl | rfl | rfl | rfl | rfl | rfl | rfl | rfl | rfl
  · exact .non _
  · exact .bl _ _
  · exact .bl _ _
  · exact i0
  · exact .int _ _ (by decide)
  · exact .int _ _ (by decide)
  · exact .int _ _ (by decide)
  · exact s0 _ (by decide)
  · exact s0 _ (by decide)
  · exact s0 _ (by decide)
  · exact s0 _ (by decide)
  · exact s0 _ (by decide)
  · exact t1 _ n1 (by decide)
  · exact .lst _ _ (by decide) n1
  · exact .di0 _
  · exact t1 _ (c1 (t1 _ n1 (by decide)) n1) (by decide)
  · exact t1 _ (c1 i0 n1) (by decide)
  · exact .lst _ _ (by decide) (c1 i0 n1)
  · exact t1 _ (c1 (s0 _ (by decide)) n1) (by decide)
  · exact t1 _ (c1 (.bl _ _) n1) (by decide)
  · exact t1 _ (c1 (t1 _ (c1 i0 (c1 i0 n1)) (by decide)) n1) (by decide)
  · exact t1 _ (c1 (s0 _ (by decide)) (c1 i0 n1)) (by decide)
  · exact .di1 _
  · exact s0 _ (by decide)
  · exact t1 _ (c1 i0 (c1 i0 (c1 i0 n1))) (by decide)
  · exact t1 _ (c1 (t1 _ (c1 i0 (c1 i0 n1)) (by decide)) (c1 (t1 _ (c1 i0 (c1 i0 n1)) (by decide)) n1)) (by decide)
  · exact .int _ _ (by decide)
end L02
namespace L02
open PySem L2 Wd
theorem app_list (a b : Str) : (a ++ b).cps.toList = a.cps.toList ++ b.cps.toList := by
  show (a.cps ++ b.cps).toList = _
  exact Array.toList_append
theorem len_list (a : Str) : a.length = a.cps.toList.length := (Array.length_toList).symm
theorem join_list : ∀ ys : List Str, (Txt.join "" ys).cps.toList = (ys.map fun y => y.cps.toList).flatten := fun ys => by
  rw [TL.join_eq]
  have go : ∀ ys : List Str, (Str.join "" ys).cps.toList = (ys.map fun y => y.cps.toList).flatten := fun ys => by
    induction ys with
    | nil => rfl
    | cons y r ih =>
      cases r with
      | nil => simp [Str.join]
      | cons z r =>
        show (y ++ "" ++ Str.join "" (z :: r)).cps.toList = _
        rw [app_list, app_list, ih]
        simp
        rfl
  exact go ys
/-- rows of signs -/
def Row (w : Nat) (d : D) : Prop := ∃ x : Str, d = .str x ∧ x.length = w ∧ ∀ c ∈ x.cps.toList, c < 1114112
def Sgn (d : D) : Prop := d = .str "o" ∨ d = .str "."
theorem sgn_join {l : List D} (h : ∀ d ∈ l, Sgn d) (hl : l.length ≤ 1000) : ∃ z, joinF (.str "") (.lst l) = some z ∧ Row l.length z := by
  have e : ∃ ys : List Str, l = ys.map D.str ∧ ∀ y ∈ ys, y = "o" ∨ y = "." := by
    clear hl
    induction l with
    | nil => exact ⟨[], rfl, fun _ z => nomatch z⟩
    | cons d l ih =>
      obtain ⟨ys, e, hy⟩ := ih fun x hx => h x (List.mem_cons_of_mem _ hx)
      rcases h d (List.mem_cons_self ..) with rfl | rfl
      · exact ⟨"o" :: ys, by rw [e]; rfl, fun y hy' => by rcases List.mem_cons.mp hy' with rfl | h'; exact .inl rfl; exact hy y h'⟩
      · exact ⟨"." :: ys, by rw [e]; rfl, fun y hy' => by rcases List.mem_cons.mp hy' with rfl | h'; exact .inr rfl; exact hy y h'⟩
  obtain ⟨ys, rfl, hy⟩ := e
  rw [List.length_map] at hl
  have one : ∀ y ∈ ys, y.length = 1 := fun y h' => by rcases hy y h' with rfl | rfl <;> decide
  have sum : (ys.map fun y : Str => y.length).sum = ys.length := by
    clear hl h hy
    induction ys with
    | nil => rfl
    | cons y r ih =>
      rw [List.map_cons, List.sum_cons, List.length_cons, one y (List.mem_cons_self ..), ih fun z hz => one z (List.mem_cons_of_mem _ hz)]
      omega
  refine ⟨.str (Txt.join "" ys), ?_, Txt.join "" ys, rfl, ?_, fun c hc => ?_⟩
  · show (match strsL (ys.map D.str) with | some ys => if (ys.map fun y : Str => y.length).sum + ys.length * ("" : Str).length ≤ 16777216 then some (D.str (Txt.join "" ys)) else none | none => none) = _
    rw [strs_str]
    refine if_pos ?_
    show (ys.map fun y : Str => y.length).sum + ys.length * 0 ≤ 16777216
    rw [sum]
    omega
  · rw [len_list, join_list, List.length_flatten, List.map_map, List.length_map, ← sum]
    congr 1
  · rw [join_list] at hc
    obtain ⟨l, hl1, hl2⟩ := List.mem_flatten.mp hc
    obtain ⟨y, hy1, rfl⟩ := List.mem_map.mp hl1
    rcases hy y hy1 with rfl | rfl
    · have : ∀ c ∈ ("o" : Str).cps.toList, c < 1114112 := by decide
      exact this c hl2
    · have : ∀ c ∈ (("." : String) : Str).cps.toList, c < 1114112 := by decide
      exact this c hl2
theorem rng_nat {n : Nat} (h : n ≤ 1000) : rng1F [.int (n : Int)] = some ((List.range n).map fun i : Nat => D.int (i : Int)) := by
  show (if (decide (-1000000 ≤ (n : Int)) && decide ((n : Int) ≤ 1000000)) = true then some (rngL (n : Int)) else none) = _
  rw [decide_eq_true (by omega), decide_eq_true (by omega)]
  rfl
theorem rng_at {n i : Nat} {x : D} (h : ((List.range n).map fun i : Nat => D.int (i : Int))[i]? = some x) : x = .int (i : Int) ∧ i < n := by
  rw [List.getElem?_map] at h
  obtain ⟨j, h1, h2⟩ := Option.map_eq_some_iff.mp h
  obtain ⟨lt, e⟩ := List.getElem?_eq_some_iff.mp h1
  rw [List.length_range] at lt
  rw [List.getElem_range] at e
  subst e
  exact ⟨h2.symm, lt⟩
def Rows (h w : Nat) (d : D) : Prop := ∃ ds : List D, d = .tup ds ∧ ds.length = h ∧ ∀ x ∈ ds, Row w x
theorem rows_ok {A : Adr} {k : Int} {ms : List D} (p : Pot k ms) (hk : k < 2 ^ 39) {h w : Nat} (h0 : 0 < h) (w0 : 0 < w) (h1 : h ≤ 10) (w1 : w ≤ 10) :
    ∃ d ms', m__law_rows A ms [.int h, .int w] = some (d, ms') ∧ Rows h w d ∧ Pot (k + 101) ms' := by
  unfold m__law_rows
  refine fnY rfl (P := fun d ms' => Rows h w d ∧ Pot (k + 101) ms') ?_
  repeat (first | with_reducible refine ok_op ?_ | with_reducible refine ok_un ?_ | with_reducible refine ok_cb ?_ | with_reducible refine ok_cons ?_ | with_reducible refine ok_nil ?_ | with_reducible refine ok_giv ?_ | with_reducible refine ok_lst ?_ | with_reducible refine ok_tup ?_ | with_reducible refine ok_dic ?_ | with_reducible refine ok_bool ?_ | with_reducible refine ok_not ?_ | with_reducible refine ok_notV ?_ | with_reducible refine ok_sl ?_ | with_reducible refine ok_part ?_ | with_reducible refine ok_join ?_ | with_reducible refine ok_it ?_ | with_reducible refine ok_itA ?_ | with_reducible refine ok_call0 ?_ | with_reducible refine ok_callN ?_ | with_reducible refine ok_chain ?_ | ((with_reducible apply ok_var); rfl) | ((with_reducible apply ok_varL); rfl) | ((with_reducible apply ok_ixN); rfl) | ((with_reducible apply ok_ixM); rfl) | ((with_reducible apply ok_lenN); rfl) | ((with_reducible apply ok_lenM); rfl) | ((with_reducible apply ok_callY); rfl) | with_reducible refine dn_set ?_ | with_reducible refine dn_ret ?_ | with_reducible refine dn_retN ?_ | with_reducible refine dn_new ?_ | with_reducible refine dn_parN ?_ | with_reducible refine dn_par ?_ | with_reducible refine dn_pair ?_ | with_reducible refine dn_raise ?_ | ((with_reducible apply dn_app); rfl) | with_reducible refine dn_item ?_ | with_reducible refine sq_set ?_ | with_reducible refine sq_pair ?_ | with_reducible refine sq_par ?_ | with_reducible refine sq_parN ?_ | with_reducible refine sq_new ?_ | with_reducible refine sq_item ?_ | ((with_reducible apply sq_app); rfl) | refine ⟨_, _, _, rfl, rfl, rfl, ?_⟩ | refine ⟨_, rfl, ?_⟩ | refine ⟨⟨_, rfl⟩, ?_⟩ | refine ⟨Nat.le_of_ble_eq_true rfl, ?_⟩)
  obtain ⟨_, ms1, e, ⟨way, rfl, _, _⟩, p1⟩ := take_ok (A := A) (u := 4) p (by omega) (by decide) (by decide)
  refine ⟨_, _, e, dn_sNx (dn_for ?_)⟩
  repeat (first | with_reducible refine ok_op ?_ | with_reducible refine ok_un ?_ | with_reducible refine ok_cb ?_ | with_reducible refine ok_cons ?_ | with_reducible refine ok_nil ?_ | with_reducible refine ok_giv ?_ | with_reducible refine ok_lst ?_ | with_reducible refine ok_tup ?_ | with_reducible refine ok_dic ?_ | with_reducible refine ok_bool ?_ | with_reducible refine ok_not ?_ | with_reducible refine ok_notV ?_ | with_reducible refine ok_sl ?_ | with_reducible refine ok_part ?_ | with_reducible refine ok_join ?_ | with_reducible refine ok_it ?_ | with_reducible refine ok_itA ?_ | with_reducible refine ok_call0 ?_ | with_reducible refine ok_callN ?_ | with_reducible refine ok_chain ?_ | ((with_reducible apply ok_var); rfl) | ((with_reducible apply ok_varL); rfl) | ((with_reducible apply ok_ixN); rfl) | ((with_reducible apply ok_ixM); rfl) | ((with_reducible apply ok_lenN); rfl) | ((with_reducible apply ok_lenM); rfl) | ((with_reducible apply ok_callY); rfl) | with_reducible refine dn_set ?_ | with_reducible refine dn_ret ?_ | with_reducible refine dn_retN ?_ | with_reducible refine dn_new ?_ | with_reducible refine dn_parN ?_ | with_reducible refine dn_par ?_ | with_reducible refine dn_pair ?_ | with_reducible refine dn_raise ?_ | ((with_reducible apply dn_app); rfl) | with_reducible refine dn_item ?_ | with_reducible refine sq_set ?_ | with_reducible refine sq_pair ?_ | with_reducible refine sq_par ?_ | with_reducible refine sq_parN ?_ | with_reducible refine sq_new ?_ | with_reducible refine sq_item ?_ | ((with_reducible apply sq_app); rfl) | refine ⟨_, _, _, rfl, rfl, rfl, ?_⟩ | refine ⟨_, rfl, ?_⟩ | refine ⟨⟨_, rfl⟩, ?_⟩ | refine ⟨Nat.le_of_ble_eq_true rfl, ?_⟩)
  refine ⟨_, rng_nat (by omega), fun i ε => ∃ (ms rs : List D) (s5 s6 s7 s8 : Slo), ε = [.mls ms, .dat (.int h), .dat (.int w), .dat (.int way), .mls rs, s5, s6, s7, s8] ∧ Pot (k + 1 + 10 * (i : Nat)) ms ∧ rs.length = i ∧ ∀ x ∈ rs, Row w x, ?_, ?_, ?_⟩
  · exact ⟨ms1, [], _, _, _, _, rfl, by simpa using p1, rfl, fun _ z => nomatch z⟩
  · rintro i x ε hx ⟨ms, rs, s5, s6, s7, s8, rfl, p2, rl, rr⟩
    obtain ⟨rfl, hi⟩ := rng_at hx
    refine ⟨_, rfl, ?_⟩
    repeat (first | with_reducible refine ok_op ?_ | with_reducible refine ok_un ?_ | with_reducible refine ok_cb ?_ | with_reducible refine ok_cons ?_ | with_reducible refine ok_nil ?_ | with_reducible refine ok_giv ?_ | with_reducible refine ok_lst ?_ | with_reducible refine ok_tup ?_ | with_reducible refine ok_dic ?_ | with_reducible refine ok_bool ?_ | with_reducible refine ok_not ?_ | with_reducible refine ok_notV ?_ | with_reducible refine ok_sl ?_ | with_reducible refine ok_part ?_ | with_reducible refine ok_join ?_ | with_reducible refine ok_it ?_ | with_reducible refine ok_itA ?_ | with_reducible refine ok_call0 ?_ | with_reducible refine ok_callN ?_ | with_reducible refine ok_chain ?_ | ((with_reducible apply ok_var); rfl) | ((with_reducible apply ok_varL); rfl) | ((with_reducible apply ok_ixN); rfl) | ((with_reducible apply ok_ixM); rfl) | ((with_reducible apply ok_lenN); rfl) | ((with_reducible apply ok_lenM); rfl) | ((with_reducible apply ok_callY); rfl) | with_reducible refine dn_set ?_ | with_reducible refine dn_ret ?_ | with_reducible refine dn_retN ?_ | with_reducible refine dn_new ?_ | with_reducible refine dn_parN ?_ | with_reducible refine dn_par ?_ | with_reducible refine dn_pair ?_ | with_reducible refine dn_raise ?_ | ((with_reducible apply dn_app); rfl) | with_reducible refine dn_item ?_ | with_reducible refine sq_set ?_ | with_reducible refine sq_pair ?_ | with_reducible refine sq_par ?_ | with_reducible refine sq_parN ?_ | with_reducible refine sq_new ?_ | with_reducible refine sq_item ?_ | ((with_reducible apply sq_app); rfl) | refine ⟨_, _, _, rfl, rfl, rfl, ?_⟩ | refine ⟨_, rfl, ?_⟩ | refine ⟨⟨_, rfl⟩, ?_⟩ | refine ⟨Nat.le_of_ble_eq_true rfl, ?_⟩)
    refine dn_sNx (dn_for ?_)
    repeat (first | with_reducible refine ok_op ?_ | with_reducible refine ok_un ?_ | with_reducible refine ok_cb ?_ | with_reducible refine ok_cons ?_ | with_reducible refine ok_nil ?_ | with_reducible refine ok_giv ?_ | with_reducible refine ok_lst ?_ | with_reducible refine ok_tup ?_ | with_reducible refine ok_dic ?_ | with_reducible refine ok_bool ?_ | with_reducible refine ok_not ?_ | with_reducible refine ok_notV ?_ | with_reducible refine ok_sl ?_ | with_reducible refine ok_part ?_ | with_reducible refine ok_join ?_ | with_reducible refine ok_it ?_ | with_reducible refine ok_itA ?_ | with_reducible refine ok_call0 ?_ | with_reducible refine ok_callN ?_ | with_reducible refine ok_chain ?_ | ((with_reducible apply ok_var); rfl) | ((with_reducible apply ok_varL); rfl) | ((with_reducible apply ok_ixN); rfl) | ((with_reducible apply ok_ixM); rfl) | ((with_reducible apply ok_lenN); rfl) | ((with_reducible apply ok_lenM); rfl) | ((with_reducible apply ok_callY); rfl) | with_reducible refine dn_set ?_ | with_reducible refine dn_ret ?_ | with_reducible refine dn_retN ?_ | with_reducible refine dn_new ?_ | with_reducible refine dn_parN ?_ | with_reducible refine dn_par ?_ | with_reducible refine dn_pair ?_ | with_reducible refine dn_raise ?_ | ((with_reducible apply dn_app); rfl) | with_reducible refine dn_item ?_ | with_reducible refine sq_set ?_ | with_reducible refine sq_pair ?_ | with_reducible refine sq_par ?_ | with_reducible refine sq_parN ?_ | with_reducible refine sq_new ?_ | with_reducible refine sq_item ?_ | ((with_reducible apply sq_app); rfl) | refine ⟨_, _, _, rfl, rfl, rfl, ?_⟩ | refine ⟨_, rfl, ?_⟩ | refine ⟨⟨_, rfl⟩, ?_⟩ | refine ⟨Nat.le_of_ble_eq_true rfl, ?_⟩)
    refine ⟨_, rng_nat (by omega), fun j ε => ∃ (ms ns : List D) (s7 s8 : Slo), ε = [.mls ms, .dat (.int h), .dat (.int w), .dat (.int way), .mls rs, .dat (.int i), .mls ns, s7, s8] ∧ Pot (k + 1 + 10 * (i : Nat) + (j : Nat)) ms ∧ ns.length = j ∧ ∀ x ∈ ns, Sgn x, ?_, ?_, ?_⟩
    · exact ⟨ms, [], _, _, rfl, by simpa using p2, rfl, fun _ z => nomatch z⟩
    · rintro j y ε hy ⟨ms, ns, s7, s8, rfl, p3, nl, nr⟩
      obtain ⟨rfl, hj⟩ := rng_at hy
      refine ⟨_, rfl, ?_⟩
      repeat (first | with_reducible refine ok_op ?_ | with_reducible refine ok_un ?_ | with_reducible refine ok_cb ?_ | with_reducible refine ok_cons ?_ | with_reducible refine ok_nil ?_ | with_reducible refine ok_giv ?_ | with_reducible refine ok_lst ?_ | with_reducible refine ok_tup ?_ | with_reducible refine ok_dic ?_ | with_reducible refine ok_bool ?_ | with_reducible refine ok_not ?_ | with_reducible refine ok_notV ?_ | with_reducible refine ok_sl ?_ | with_reducible refine ok_part ?_ | with_reducible refine ok_join ?_ | with_reducible refine ok_it ?_ | with_reducible refine ok_itA ?_ | with_reducible refine ok_call0 ?_ | with_reducible refine ok_callN ?_ | with_reducible refine ok_chain ?_ | ((with_reducible apply ok_var); rfl) | ((with_reducible apply ok_varL); rfl) | ((with_reducible apply ok_ixN); rfl) | ((with_reducible apply ok_ixM); rfl) | ((with_reducible apply ok_lenN); rfl) | ((with_reducible apply ok_lenM); rfl) | ((with_reducible apply ok_callY); rfl) | with_reducible refine dn_set ?_ | with_reducible refine dn_ret ?_ | with_reducible refine dn_retN ?_ | with_reducible refine dn_new ?_ | with_reducible refine dn_parN ?_ | with_reducible refine dn_par ?_ | with_reducible refine dn_pair ?_ | with_reducible refine dn_raise ?_ | ((with_reducible apply dn_app); rfl) | with_reducible refine dn_item ?_ | with_reducible refine sq_set ?_ | with_reducible refine sq_pair ?_ | with_reducible refine sq_par ?_ | with_reducible refine sq_parN ?_ | with_reducible refine sq_new ?_ | with_reducible refine sq_item ?_ | ((with_reducible apply sq_app); rfl) | refine ⟨_, _, _, rfl, rfl, rfl, ?_⟩ | refine ⟨_, rfl, ?_⟩ | refine ⟨⟨_, rfl⟩, ?_⟩ | refine ⟨Nat.le_of_ble_eq_true rfl, ?_⟩)
      refine Ok.mono (P := fun d ε => ∃ (b : Bool) (ms' : List D), d = .bl b ∧ ε = [.mls ms', .dat (.int h), .dat (.int w), .dat (.int way), .mls rs, .dat (.int i), .mls ns, .dat (.int j), s8] ∧ Pot (k + 1 + 10 * (i : Nat) + ((j + 1 : Nat) : Int)) ms') ?_ ?_
      · have same : ∀ b : Bool, ∃ (c : Bool) (ms' : List D), D.bl b = .bl c ∧ [Slo.mls ms, .dat (.int h), .dat (.int w), .dat (.int way), .mls rs, .dat (.int i), .mls ns, .dat (.int j), s8] = [.mls ms', .dat (.int h), .dat (.int w), .dat (.int way), .mls rs, .dat (.int i), .mls ns, .dat (.int j), s8] ∧ Pot (k + 1 + 10 * (i : Nat) + ((j + 1 : Nat) : Int)) ms' := fun b => ⟨b, ms, rfl, rfl, p3.mono (by omega)⟩
        refine ok_orV ?_
        repeat (first | with_reducible refine ok_op ?_ | with_reducible refine ok_un ?_ | with_reducible refine ok_cb ?_ | with_reducible refine ok_cons ?_ | with_reducible refine ok_nil ?_ | with_reducible refine ok_giv ?_ | with_reducible refine ok_lst ?_ | with_reducible refine ok_tup ?_ | with_reducible refine ok_dic ?_ | with_reducible refine ok_bool ?_ | with_reducible refine ok_not ?_ | with_reducible refine ok_notV ?_ | with_reducible refine ok_sl ?_ | with_reducible refine ok_part ?_ | with_reducible refine ok_join ?_ | with_reducible refine ok_it ?_ | with_reducible refine ok_itA ?_ | with_reducible refine ok_call0 ?_ | with_reducible refine ok_callN ?_ | with_reducible refine ok_chain ?_ | ((with_reducible apply ok_var); rfl) | ((with_reducible apply ok_varL); rfl) | ((with_reducible apply ok_ixN); rfl) | ((with_reducible apply ok_ixM); rfl) | ((with_reducible apply ok_lenN); rfl) | ((with_reducible apply ok_lenM); rfl) | ((with_reducible apply ok_callY); rfl) | with_reducible refine dn_set ?_ | with_reducible refine dn_ret ?_ | with_reducible refine dn_retN ?_ | with_reducible refine dn_new ?_ | with_reducible refine dn_parN ?_ | with_reducible refine dn_par ?_ | with_reducible refine dn_pair ?_ | with_reducible refine dn_raise ?_ | ((with_reducible apply dn_app); rfl) | with_reducible refine dn_item ?_ | with_reducible refine sq_set ?_ | with_reducible refine sq_pair ?_ | with_reducible refine sq_par ?_ | with_reducible refine sq_parN ?_ | with_reducible refine sq_new ?_ | with_reducible refine sq_item ?_ | ((with_reducible apply sq_app); rfl) | refine ⟨_, _, _, rfl, rfl, rfl, ?_⟩ | refine ⟨_, rfl, ?_⟩ | refine ⟨⟨_, rfl⟩, ?_⟩ | refine ⟨Nat.le_of_ble_eq_true rfl, ?_⟩)
        refine ⟨fun _ => same true, fun _ => ok_orV ?_⟩
        repeat (first | with_reducible refine ok_op ?_ | with_reducible refine ok_un ?_ | with_reducible refine ok_cb ?_ | with_reducible refine ok_cons ?_ | with_reducible refine ok_nil ?_ | with_reducible refine ok_giv ?_ | with_reducible refine ok_lst ?_ | with_reducible refine ok_tup ?_ | with_reducible refine ok_dic ?_ | with_reducible refine ok_bool ?_ | with_reducible refine ok_not ?_ | with_reducible refine ok_notV ?_ | with_reducible refine ok_sl ?_ | with_reducible refine ok_part ?_ | with_reducible refine ok_join ?_ | with_reducible refine ok_it ?_ | with_reducible refine ok_itA ?_ | with_reducible refine ok_call0 ?_ | with_reducible refine ok_callN ?_ | with_reducible refine ok_chain ?_ | ((with_reducible apply ok_var); rfl) | ((with_reducible apply ok_varL); rfl) | ((with_reducible apply ok_ixN); rfl) | ((with_reducible apply ok_ixM); rfl) | ((with_reducible apply ok_lenN); rfl) | ((with_reducible apply ok_lenM); rfl) | ((with_reducible apply ok_callY); rfl) | with_reducible refine dn_set ?_ | with_reducible refine dn_ret ?_ | with_reducible refine dn_retN ?_ | with_reducible refine dn_new ?_ | with_reducible refine dn_parN ?_ | with_reducible refine dn_par ?_ | with_reducible refine dn_pair ?_ | with_reducible refine dn_raise ?_ | ((with_reducible apply dn_app); rfl) | with_reducible refine dn_item ?_ | with_reducible refine sq_set ?_ | with_reducible refine sq_pair ?_ | with_reducible refine sq_par ?_ | with_reducible refine sq_parN ?_ | with_reducible refine sq_new ?_ | with_reducible refine sq_item ?_ | ((with_reducible apply sq_app); rfl) | refine ⟨_, _, _, rfl, rfl, rfl, ?_⟩ | refine ⟨_, rfl, ?_⟩ | refine ⟨⟨_, rfl⟩, ?_⟩ | refine ⟨Nat.le_of_ble_eq_true rfl, ?_⟩)
        refine ⟨_, mod_ii (by split <;> omega), ?_⟩
        repeat (first | with_reducible refine ok_op ?_ | with_reducible refine ok_un ?_ | with_reducible refine ok_cb ?_ | with_reducible refine ok_cons ?_ | with_reducible refine ok_nil ?_ | with_reducible refine ok_giv ?_ | with_reducible refine ok_lst ?_ | with_reducible refine ok_tup ?_ | with_reducible refine ok_dic ?_ | with_reducible refine ok_bool ?_ | with_reducible refine ok_not ?_ | with_reducible refine ok_notV ?_ | with_reducible refine ok_sl ?_ | with_reducible refine ok_part ?_ | with_reducible refine ok_join ?_ | with_reducible refine ok_it ?_ | with_reducible refine ok_itA ?_ | with_reducible refine ok_call0 ?_ | with_reducible refine ok_callN ?_ | with_reducible refine ok_chain ?_ | ((with_reducible apply ok_var); rfl) | ((with_reducible apply ok_varL); rfl) | ((with_reducible apply ok_ixN); rfl) | ((with_reducible apply ok_ixM); rfl) | ((with_reducible apply ok_lenN); rfl) | ((with_reducible apply ok_lenM); rfl) | ((with_reducible apply ok_callY); rfl) | with_reducible refine dn_set ?_ | with_reducible refine dn_ret ?_ | with_reducible refine dn_retN ?_ | with_reducible refine dn_new ?_ | with_reducible refine dn_parN ?_ | with_reducible refine dn_par ?_ | with_reducible refine dn_pair ?_ | with_reducible refine dn_raise ?_ | ((with_reducible apply dn_app); rfl) | with_reducible refine dn_item ?_ | with_reducible refine sq_set ?_ | with_reducible refine sq_pair ?_ | with_reducible refine sq_par ?_ | with_reducible refine sq_parN ?_ | with_reducible refine sq_new ?_ | with_reducible refine sq_item ?_ | ((with_reducible apply sq_app); rfl) | refine ⟨_, _, _, rfl, rfl, rfl, ?_⟩ | refine ⟨_, rfl, ?_⟩ | refine ⟨⟨_, rfl⟩, ?_⟩ | refine ⟨Nat.le_of_ble_eq_true rfl, ?_⟩)
        refine ⟨fun _ => same true, fun _ => ok_andV ?_⟩
        repeat (first | with_reducible refine ok_op ?_ | with_reducible refine ok_un ?_ | with_reducible refine ok_cb ?_ | with_reducible refine ok_cons ?_ | with_reducible refine ok_nil ?_ | with_reducible refine ok_giv ?_ | with_reducible refine ok_lst ?_ | with_reducible refine ok_tup ?_ | with_reducible refine ok_dic ?_ | with_reducible refine ok_bool ?_ | with_reducible refine ok_not ?_ | with_reducible refine ok_notV ?_ | with_reducible refine ok_sl ?_ | with_reducible refine ok_part ?_ | with_reducible refine ok_join ?_ | with_reducible refine ok_it ?_ | with_reducible refine ok_itA ?_ | with_reducible refine ok_call0 ?_ | with_reducible refine ok_callN ?_ | with_reducible refine ok_chain ?_ | ((with_reducible apply ok_var); rfl) | ((with_reducible apply ok_varL); rfl) | ((with_reducible apply ok_ixN); rfl) | ((with_reducible apply ok_ixM); rfl) | ((with_reducible apply ok_lenN); rfl) | ((with_reducible apply ok_lenM); rfl) | ((with_reducible apply ok_callY); rfl) | with_reducible refine dn_set ?_ | with_reducible refine dn_ret ?_ | with_reducible refine dn_retN ?_ | with_reducible refine dn_new ?_ | with_reducible refine dn_parN ?_ | with_reducible refine dn_par ?_ | with_reducible refine dn_pair ?_ | with_reducible refine dn_raise ?_ | ((with_reducible apply dn_app); rfl) | with_reducible refine dn_item ?_ | with_reducible refine sq_set ?_ | with_reducible refine sq_pair ?_ | with_reducible refine sq_par ?_ | with_reducible refine sq_parN ?_ | with_reducible refine sq_new ?_ | with_reducible refine sq_item ?_ | ((with_reducible apply sq_app); rfl) | refine ⟨_, _, _, rfl, rfl, rfl, ?_⟩ | refine ⟨_, rfl, ?_⟩ | refine ⟨⟨_, rfl⟩, ?_⟩ | refine ⟨Nat.le_of_ble_eq_true rfl, ?_⟩)
        refine ⟨fun _ => ?_, fun _ => same false⟩
        repeat (first | with_reducible refine ok_op ?_ | with_reducible refine ok_un ?_ | with_reducible refine ok_cb ?_ | with_reducible refine ok_cons ?_ | with_reducible refine ok_nil ?_ | with_reducible refine ok_giv ?_ | with_reducible refine ok_lst ?_ | with_reducible refine ok_tup ?_ | with_reducible refine ok_dic ?_ | with_reducible refine ok_bool ?_ | with_reducible refine ok_not ?_ | with_reducible refine ok_notV ?_ | with_reducible refine ok_sl ?_ | with_reducible refine ok_part ?_ | with_reducible refine ok_join ?_ | with_reducible refine ok_it ?_ | with_reducible refine ok_itA ?_ | with_reducible refine ok_call0 ?_ | with_reducible refine ok_callN ?_ | with_reducible refine ok_chain ?_ | ((with_reducible apply ok_var); rfl) | ((with_reducible apply ok_varL); rfl) | ((with_reducible apply ok_ixN); rfl) | ((with_reducible apply ok_ixM); rfl) | ((with_reducible apply ok_lenN); rfl) | ((with_reducible apply ok_lenM); rfl) | ((with_reducible apply ok_callY); rfl) | with_reducible refine dn_set ?_ | with_reducible refine dn_ret ?_ | with_reducible refine dn_retN ?_ | with_reducible refine dn_new ?_ | with_reducible refine dn_parN ?_ | with_reducible refine dn_par ?_ | with_reducible refine dn_pair ?_ | with_reducible refine dn_raise ?_ | ((with_reducible apply dn_app); rfl) | with_reducible refine dn_item ?_ | with_reducible refine sq_set ?_ | with_reducible refine sq_pair ?_ | with_reducible refine sq_par ?_ | with_reducible refine sq_parN ?_ | with_reducible refine sq_new ?_ | with_reducible refine sq_item ?_ | ((with_reducible apply sq_app); rfl) | refine ⟨_, _, _, rfl, rfl, rfl, ?_⟩ | refine ⟨_, rfl, ?_⟩ | refine ⟨⟨_, rfl⟩, ?_⟩ | refine ⟨Nat.le_of_ble_eq_true rfl, ?_⟩)
        obtain ⟨_, ms2, e2, ⟨v, rfl, _, _⟩, p4⟩ := take_ok (A := A) (u := 3) p3 (by omega) (by decide) (by decide)
        refine ⟨_, _, e2, ?_⟩
        repeat (first | with_reducible refine ok_op ?_ | with_reducible refine ok_un ?_ | with_reducible refine ok_cb ?_ | with_reducible refine ok_cons ?_ | with_reducible refine ok_nil ?_ | with_reducible refine ok_giv ?_ | with_reducible refine ok_lst ?_ | with_reducible refine ok_tup ?_ | with_reducible refine ok_dic ?_ | with_reducible refine ok_bool ?_ | with_reducible refine ok_not ?_ | with_reducible refine ok_notV ?_ | with_reducible refine ok_sl ?_ | with_reducible refine ok_part ?_ | with_reducible refine ok_join ?_ | with_reducible refine ok_it ?_ | with_reducible refine ok_itA ?_ | with_reducible refine ok_call0 ?_ | with_reducible refine ok_callN ?_ | with_reducible refine ok_chain ?_ | ((with_reducible apply ok_var); rfl) | ((with_reducible apply ok_varL); rfl) | ((with_reducible apply ok_ixN); rfl) | ((with_reducible apply ok_ixM); rfl) | ((with_reducible apply ok_lenN); rfl) | ((with_reducible apply ok_lenM); rfl) | ((with_reducible apply ok_callY); rfl) | with_reducible refine dn_set ?_ | with_reducible refine dn_ret ?_ | with_reducible refine dn_retN ?_ | with_reducible refine dn_new ?_ | with_reducible refine dn_parN ?_ | with_reducible refine dn_par ?_ | with_reducible refine dn_pair ?_ | with_reducible refine dn_raise ?_ | ((with_reducible apply dn_app); rfl) | with_reducible refine dn_item ?_ | with_reducible refine sq_set ?_ | with_reducible refine sq_pair ?_ | with_reducible refine sq_par ?_ | with_reducible refine sq_parN ?_ | with_reducible refine sq_new ?_ | with_reducible refine sq_item ?_ | ((with_reducible apply sq_app); rfl) | refine ⟨_, _, _, rfl, rfl, rfl, ?_⟩ | refine ⟨_, rfl, ?_⟩ | refine ⟨⟨_, rfl⟩, ?_⟩ | refine ⟨Nat.le_of_ble_eq_true rfl, ?_⟩)
        exact ⟨_, ms2, rfl, rfl, p4.mono (by omega)⟩
      · rintro d ε ⟨b, ms', rfl, rfl, p4⟩
        refine dn_app rfl (Ok.mono (P := fun d ε => Sgn d ∧ ε = [.mls ms', .dat (.int h), .dat (.int w), .dat (.int way), .mls rs, .dat (.int i), .mls ns, .dat (.int j), .dat (.bl b)]) (ok_if (ok_or ?_)) ?_)
        · have fin : ∀ c : Bool, (c = true → Ok (giv (D.str "o")) [.mls ms', .dat (.int h), .dat (.int w), .dat (.int way), .mls rs, .dat (.int i), .mls ns, .dat (.int j), .dat (.bl b)] fun d ε => Sgn d ∧ ε = [.mls ms', .dat (.int h), .dat (.int w), .dat (.int way), .mls rs, .dat (.int i), .mls ns, .dat (.int j), .dat (.bl b)]) ∧ (c = false → Ok (giv (D.str ".")) [.mls ms', .dat (.int h), .dat (.int w), .dat (.int way), .mls rs, .dat (.int i), .mls ns, .dat (.int j), .dat (.bl b)] fun d ε => Sgn d ∧ ε = [.mls ms', .dat (.int h), .dat (.int w), .dat (.int way), .mls rs, .dat (.int i), .mls ns, .dat (.int j), .dat (.bl b)]) :=
            fun c => ⟨fun _ => ok_giv ⟨.inl rfl, rfl⟩, fun _ => ok_giv ⟨.inr rfl, rfl⟩⟩
          repeat (first | with_reducible refine ok_op ?_ | with_reducible refine ok_un ?_ | with_reducible refine ok_cb ?_ | with_reducible refine ok_cons ?_ | with_reducible refine ok_nil ?_ | with_reducible refine ok_giv ?_ | with_reducible refine ok_lst ?_ | with_reducible refine ok_tup ?_ | with_reducible refine ok_dic ?_ | with_reducible refine ok_bool ?_ | with_reducible refine ok_not ?_ | with_reducible refine ok_notV ?_ | with_reducible refine ok_sl ?_ | with_reducible refine ok_part ?_ | with_reducible refine ok_join ?_ | with_reducible refine ok_it ?_ | with_reducible refine ok_itA ?_ | with_reducible refine ok_call0 ?_ | with_reducible refine ok_callN ?_ | with_reducible refine ok_chain ?_ | ((with_reducible apply ok_var); rfl) | ((with_reducible apply ok_varL); rfl) | ((with_reducible apply ok_ixN); rfl) | ((with_reducible apply ok_ixM); rfl) | ((with_reducible apply ok_lenN); rfl) | ((with_reducible apply ok_lenM); rfl) | ((with_reducible apply ok_callY); rfl) | with_reducible refine dn_set ?_ | with_reducible refine dn_ret ?_ | with_reducible refine dn_retN ?_ | with_reducible refine dn_new ?_ | with_reducible refine dn_parN ?_ | with_reducible refine dn_par ?_ | with_reducible refine dn_pair ?_ | with_reducible refine dn_raise ?_ | ((with_reducible apply dn_app); rfl) | with_reducible refine dn_item ?_ | with_reducible refine sq_set ?_ | with_reducible refine sq_pair ?_ | with_reducible refine sq_par ?_ | with_reducible refine sq_parN ?_ | with_reducible refine sq_new ?_ | with_reducible refine sq_item ?_ | ((with_reducible apply sq_app); rfl) | refine ⟨_, _, _, rfl, rfl, rfl, ?_⟩ | refine ⟨_, rfl, ?_⟩ | refine ⟨⟨_, rfl⟩, ?_⟩ | refine ⟨Nat.le_of_ble_eq_true rfl, ?_⟩)
          refine ⟨fun _ => fin true, fun _ => ok_or ?_⟩
          repeat (first | with_reducible refine ok_op ?_ | with_reducible refine ok_un ?_ | with_reducible refine ok_cb ?_ | with_reducible refine ok_cons ?_ | with_reducible refine ok_nil ?_ | with_reducible refine ok_giv ?_ | with_reducible refine ok_lst ?_ | with_reducible refine ok_tup ?_ | with_reducible refine ok_dic ?_ | with_reducible refine ok_bool ?_ | with_reducible refine ok_not ?_ | with_reducible refine ok_notV ?_ | with_reducible refine ok_sl ?_ | with_reducible refine ok_part ?_ | with_reducible refine ok_join ?_ | with_reducible refine ok_it ?_ | with_reducible refine ok_itA ?_ | with_reducible refine ok_call0 ?_ | with_reducible refine ok_callN ?_ | with_reducible refine ok_chain ?_ | ((with_reducible apply ok_var); rfl) | ((with_reducible apply ok_varL); rfl) | ((with_reducible apply ok_ixN); rfl) | ((with_reducible apply ok_ixM); rfl) | ((with_reducible apply ok_lenN); rfl) | ((with_reducible apply ok_lenM); rfl) | ((with_reducible apply ok_callY); rfl) | with_reducible refine dn_set ?_ | with_reducible refine dn_ret ?_ | with_reducible refine dn_retN ?_ | with_reducible refine dn_new ?_ | with_reducible refine dn_parN ?_ | with_reducible refine dn_par ?_ | with_reducible refine dn_pair ?_ | with_reducible refine dn_raise ?_ | ((with_reducible apply dn_app); rfl) | with_reducible refine dn_item ?_ | with_reducible refine sq_set ?_ | with_reducible refine sq_pair ?_ | with_reducible refine sq_par ?_ | with_reducible refine sq_parN ?_ | with_reducible refine sq_new ?_ | with_reducible refine sq_item ?_ | ((with_reducible apply sq_app); rfl) | refine ⟨_, _, _, rfl, rfl, rfl, ?_⟩ | refine ⟨_, rfl, ?_⟩ | refine ⟨⟨_, rfl⟩, ?_⟩ | refine ⟨Nat.le_of_ble_eq_true rfl, ?_⟩)
          refine ⟨_, mod_ii (by omega), ?_⟩
          repeat (first | with_reducible refine ok_op ?_ | with_reducible refine ok_un ?_ | with_reducible refine ok_cb ?_ | with_reducible refine ok_cons ?_ | with_reducible refine ok_nil ?_ | with_reducible refine ok_giv ?_ | with_reducible refine ok_lst ?_ | with_reducible refine ok_tup ?_ | with_reducible refine ok_dic ?_ | with_reducible refine ok_bool ?_ | with_reducible refine ok_not ?_ | with_reducible refine ok_notV ?_ | with_reducible refine ok_sl ?_ | with_reducible refine ok_part ?_ | with_reducible refine ok_join ?_ | with_reducible refine ok_it ?_ | with_reducible refine ok_itA ?_ | with_reducible refine ok_call0 ?_ | with_reducible refine ok_callN ?_ | with_reducible refine ok_chain ?_ | ((with_reducible apply ok_var); rfl) | ((with_reducible apply ok_varL); rfl) | ((with_reducible apply ok_ixN); rfl) | ((with_reducible apply ok_ixM); rfl) | ((with_reducible apply ok_lenN); rfl) | ((with_reducible apply ok_lenM); rfl) | ((with_reducible apply ok_callY); rfl) | with_reducible refine dn_set ?_ | with_reducible refine dn_ret ?_ | with_reducible refine dn_retN ?_ | with_reducible refine dn_new ?_ | with_reducible refine dn_parN ?_ | with_reducible refine dn_par ?_ | with_reducible refine dn_pair ?_ | with_reducible refine dn_raise ?_ | ((with_reducible apply dn_app); rfl) | with_reducible refine dn_item ?_ | with_reducible refine sq_set ?_ | with_reducible refine sq_pair ?_ | with_reducible refine sq_par ?_ | with_reducible refine sq_parN ?_ | with_reducible refine sq_new ?_ | with_reducible refine sq_item ?_ | ((with_reducible apply sq_app); rfl) | refine ⟨_, _, _, rfl, rfl, rfl, ?_⟩ | refine ⟨_, rfl, ?_⟩ | refine ⟨⟨_, rfl⟩, ?_⟩ | refine ⟨Nat.le_of_ble_eq_true rfl, ?_⟩)
          refine ⟨fun _ => fin true, fun _ => ?_⟩
          repeat (first | with_reducible refine ok_op ?_ | with_reducible refine ok_un ?_ | with_reducible refine ok_cb ?_ | with_reducible refine ok_cons ?_ | with_reducible refine ok_nil ?_ | with_reducible refine ok_giv ?_ | with_reducible refine ok_lst ?_ | with_reducible refine ok_tup ?_ | with_reducible refine ok_dic ?_ | with_reducible refine ok_bool ?_ | with_reducible refine ok_not ?_ | with_reducible refine ok_notV ?_ | with_reducible refine ok_sl ?_ | with_reducible refine ok_part ?_ | with_reducible refine ok_join ?_ | with_reducible refine ok_it ?_ | with_reducible refine ok_itA ?_ | with_reducible refine ok_call0 ?_ | with_reducible refine ok_callN ?_ | with_reducible refine ok_chain ?_ | ((with_reducible apply ok_var); rfl) | ((with_reducible apply ok_varL); rfl) | ((with_reducible apply ok_ixN); rfl) | ((with_reducible apply ok_ixM); rfl) | ((with_reducible apply ok_lenN); rfl) | ((with_reducible apply ok_lenM); rfl) | ((with_reducible apply ok_callY); rfl) | with_reducible refine dn_set ?_ | with_reducible refine dn_ret ?_ | with_reducible refine dn_retN ?_ | with_reducible refine dn_new ?_ | with_reducible refine dn_parN ?_ | with_reducible refine dn_par ?_ | with_reducible refine dn_pair ?_ | with_reducible refine dn_raise ?_ | ((with_reducible apply dn_app); rfl) | with_reducible refine dn_item ?_ | with_reducible refine sq_set ?_ | with_reducible refine sq_pair ?_ | with_reducible refine sq_par ?_ | with_reducible refine sq_parN ?_ | with_reducible refine sq_new ?_ | with_reducible refine sq_item ?_ | ((with_reducible apply sq_app); rfl) | refine ⟨_, _, _, rfl, rfl, rfl, ?_⟩ | refine ⟨_, rfl, ?_⟩ | refine ⟨⟨_, rfl⟩, ?_⟩ | refine ⟨Nat.le_of_ble_eq_true rfl, ?_⟩)
          refine ⟨_, mod_ii (by omega), ?_⟩
          repeat (first | with_reducible refine ok_op ?_ | with_reducible refine ok_un ?_ | with_reducible refine ok_cb ?_ | with_reducible refine ok_cons ?_ | with_reducible refine ok_nil ?_ | with_reducible refine ok_giv ?_ | with_reducible refine ok_lst ?_ | with_reducible refine ok_tup ?_ | with_reducible refine ok_dic ?_ | with_reducible refine ok_bool ?_ | with_reducible refine ok_not ?_ | with_reducible refine ok_notV ?_ | with_reducible refine ok_sl ?_ | with_reducible refine ok_part ?_ | with_reducible refine ok_join ?_ | with_reducible refine ok_it ?_ | with_reducible refine ok_itA ?_ | with_reducible refine ok_call0 ?_ | with_reducible refine ok_callN ?_ | with_reducible refine ok_chain ?_ | ((with_reducible apply ok_var); rfl) | ((with_reducible apply ok_varL); rfl) | ((with_reducible apply ok_ixN); rfl) | ((with_reducible apply ok_ixM); rfl) | ((with_reducible apply ok_lenN); rfl) | ((with_reducible apply ok_lenM); rfl) | ((with_reducible apply ok_callY); rfl) | with_reducible refine dn_set ?_ | with_reducible refine dn_ret ?_ | with_reducible refine dn_retN ?_ | with_reducible refine dn_new ?_ | with_reducible refine dn_parN ?_ | with_reducible refine dn_par ?_ | with_reducible refine dn_pair ?_ | with_reducible refine dn_raise ?_ | ((with_reducible apply dn_app); rfl) | with_reducible refine dn_item ?_ | with_reducible refine sq_set ?_ | with_reducible refine sq_pair ?_ | with_reducible refine sq_par ?_ | with_reducible refine sq_parN ?_ | with_reducible refine sq_new ?_ | with_reducible refine sq_item ?_ | ((with_reducible apply sq_app); rfl) | refine ⟨_, _, _, rfl, rfl, rfl, ?_⟩ | refine ⟨_, rfl, ?_⟩ | refine ⟨⟨_, rfl⟩, ?_⟩ | refine ⟨Nat.le_of_ble_eq_true rfl, ?_⟩)
          exact fin _
        · rintro d ε ⟨sd, rfl⟩
          refine ⟨ns, rfl, by rw [nl]; omega, .inl ⟨rfl, ms', ns ++ [d], _, _, rfl, p4, by rw [List.length_append, nl]; rfl, fun x hx => ?_⟩⟩
          rcases List.mem_append.mp hx with hx | hx
          · exact nr x hx
          · rw [List.mem_singleton.mp hx]; exact sd
    · rintro ε ⟨ms, ns, s7, s8, rfl, p3, nl, nr⟩
      rw [List.length_map, List.length_range] at nl p3
      refine ⟨rfl, ?_⟩
      obtain ⟨z, hz, rz⟩ := sgn_join nr (by omega)
      repeat (first | with_reducible refine ok_op ?_ | with_reducible refine ok_un ?_ | with_reducible refine ok_cb ?_ | with_reducible refine ok_cons ?_ | with_reducible refine ok_nil ?_ | with_reducible refine ok_giv ?_ | with_reducible refine ok_lst ?_ | with_reducible refine ok_tup ?_ | with_reducible refine ok_dic ?_ | with_reducible refine ok_bool ?_ | with_reducible refine ok_not ?_ | with_reducible refine ok_notV ?_ | with_reducible refine ok_sl ?_ | with_reducible refine ok_part ?_ | with_reducible refine ok_join ?_ | with_reducible refine ok_it ?_ | with_reducible refine ok_itA ?_ | with_reducible refine ok_call0 ?_ | with_reducible refine ok_callN ?_ | with_reducible refine ok_chain ?_ | ((with_reducible apply ok_var); rfl) | ((with_reducible apply ok_varL); rfl) | ((with_reducible apply ok_ixN); rfl) | ((with_reducible apply ok_ixM); rfl) | ((with_reducible apply ok_lenN); rfl) | ((with_reducible apply ok_lenM); rfl) | ((with_reducible apply ok_callY); rfl) | with_reducible refine dn_set ?_ | with_reducible refine dn_ret ?_ | with_reducible refine dn_retN ?_ | with_reducible refine dn_new ?_ | with_reducible refine dn_parN ?_ | with_reducible refine dn_par ?_ | with_reducible refine dn_pair ?_ | with_reducible refine dn_raise ?_ | ((with_reducible apply dn_app); rfl) | with_reducible refine dn_item ?_ | with_reducible refine sq_set ?_ | with_reducible refine sq_pair ?_ | with_reducible refine sq_par ?_ | with_reducible refine sq_parN ?_ | with_reducible refine sq_new ?_ | with_reducible refine sq_item ?_ | ((with_reducible apply sq_app); rfl) | refine ⟨_, _, _, rfl, rfl, rfl, ?_⟩ | refine ⟨_, rfl, ?_⟩ | refine ⟨⟨_, rfl⟩, ?_⟩ | refine ⟨Nat.le_of_ble_eq_true rfl, ?_⟩)
      refine ⟨_, hz, ?_⟩
      repeat (first | with_reducible refine ok_op ?_ | with_reducible refine ok_un ?_ | with_reducible refine ok_cb ?_ | with_reducible refine ok_cons ?_ | with_reducible refine ok_nil ?_ | with_reducible refine ok_giv ?_ | with_reducible refine ok_lst ?_ | with_reducible refine ok_tup ?_ | with_reducible refine ok_dic ?_ | with_reducible refine ok_bool ?_ | with_reducible refine ok_not ?_ | with_reducible refine ok_notV ?_ | with_reducible refine ok_sl ?_ | with_reducible refine ok_part ?_ | with_reducible refine ok_join ?_ | with_reducible refine ok_it ?_ | with_reducible refine ok_itA ?_ | with_reducible refine ok_call0 ?_ | with_reducible refine ok_callN ?_ | with_reducible refine ok_chain ?_ | ((with_reducible apply ok_var); rfl) | ((with_reducible apply ok_varL); rfl) | ((with_reducible apply ok_ixN); rfl) | ((with_reducible apply ok_ixM); rfl) | ((with_reducible apply ok_lenN); rfl) | ((with_reducible apply ok_lenM); rfl) | ((with_reducible apply ok_callY); rfl) | with_reducible refine dn_set ?_ | with_reducible refine dn_ret ?_ | with_reducible refine dn_retN ?_ | with_reducible refine dn_new ?_ | with_reducible refine dn_parN ?_ | with_reducible refine dn_par ?_ | with_reducible refine dn_pair ?_ | with_reducible refine dn_raise ?_ | ((with_reducible apply dn_app); rfl) | with_reducible refine dn_item ?_ | with_reducible refine sq_set ?_ | with_reducible refine sq_pair ?_ | with_reducible refine sq_par ?_ | with_reducible refine sq_parN ?_ | with_reducible refine sq_new ?_ | with_reducible refine sq_item ?_ | ((with_reducible apply sq_app); rfl) | refine ⟨_, _, _, rfl, rfl, rfl, ?_⟩ | refine ⟨_, rfl, ?_⟩ | refine ⟨⟨_, rfl⟩, ?_⟩ | refine ⟨Nat.le_of_ble_eq_true rfl, ?_⟩)
      refine ⟨by omega, .inl ⟨rfl, ms, rs ++ [z], _, _, _, _, rfl, p3.mono (by omega), by rw [List.length_append, rl]; rfl, fun x hx => ?_⟩⟩
      rcases List.mem_append.mp hx with hx | hx
      · exact rr x hx
      · rw [List.mem_singleton.mp hx, ← nl]; exact rz
  · rintro ε ⟨ms, rs, s5, s6, s7, s8, rfl, p2, rl, rr⟩
    refine ⟨rfl, ?_⟩
    rw [List.length_map, List.length_range] at rl p2
    repeat (first | with_reducible refine ok_op ?_ | with_reducible refine ok_un ?_ | with_reducible refine ok_cb ?_ | with_reducible refine ok_cons ?_ | with_reducible refine ok_nil ?_ | with_reducible refine ok_giv ?_ | with_reducible refine ok_lst ?_ | with_reducible refine ok_tup ?_ | with_reducible refine ok_dic ?_ | with_reducible refine ok_bool ?_ | with_reducible refine ok_not ?_ | with_reducible refine ok_notV ?_ | with_reducible refine ok_sl ?_ | with_reducible refine ok_part ?_ | with_reducible refine ok_join ?_ | with_reducible refine ok_it ?_ | with_reducible refine ok_itA ?_ | with_reducible refine ok_call0 ?_ | with_reducible refine ok_callN ?_ | with_reducible refine ok_chain ?_ | ((with_reducible apply ok_var); rfl) | ((with_reducible apply ok_varL); rfl) | ((with_reducible apply ok_ixN); rfl) | ((with_reducible apply ok_ixM); rfl) | ((with_reducible apply ok_lenN); rfl) | ((with_reducible apply ok_lenM); rfl) | ((with_reducible apply ok_callY); rfl) | with_reducible refine dn_set ?_ | with_reducible refine dn_ret ?_ | with_reducible refine dn_retN ?_ | with_reducible refine dn_new ?_ | with_reducible refine dn_parN ?_ | with_reducible refine dn_par ?_ | with_reducible refine dn_pair ?_ | with_reducible refine dn_raise ?_ | ((with_reducible apply dn_app); rfl) | with_reducible refine dn_item ?_ | with_reducible refine sq_set ?_ | with_reducible refine sq_pair ?_ | with_reducible refine sq_par ?_ | with_reducible refine sq_parN ?_ | with_reducible refine sq_new ?_ | with_reducible refine sq_item ?_ | ((with_reducible apply sq_app); rfl) | refine ⟨_, _, _, rfl, rfl, rfl, ?_⟩ | refine ⟨_, rfl, ?_⟩ | refine ⟨⟨_, rfl⟩, ?_⟩ | refine ⟨Nat.le_of_ble_eq_true rfl, ?_⟩)
    exact ⟨⟨rs, rfl, rl, rr⟩, p2.mono (by omega)⟩
theorem small_ok {A : Adr} {k : Int} {ms : List D} (p : Pot k ms) (hk : k < 2 ^ 38) {n : Int} (h0 : 0 < n) (h1 : n ≤ 10) :
    ∃ d ms', m__law_small_rows A ms [.int n] = some (d, ms') ∧ (∃ h w : Nat, 0 < h ∧ 0 < w ∧ h ≤ 10 ∧ w ≤ 10 ∧ Rows h w d) ∧ Pot (k + 103) ms' := by
  unfold m__law_small_rows
  refine fnY rfl (P := fun d ms' => (∃ h w : Nat, 0 < h ∧ 0 < w ∧ h ≤ 10 ∧ w ≤ 10 ∧ Rows h w d) ∧ Pot (k + 103) ms') ?_
  repeat (first | with_reducible refine ok_op ?_ | with_reducible refine ok_un ?_ | with_reducible refine ok_cb ?_ | with_reducible refine ok_cons ?_ | with_reducible refine ok_nil ?_ | with_reducible refine ok_giv ?_ | with_reducible refine ok_lst ?_ | with_reducible refine ok_tup ?_ | with_reducible refine ok_dic ?_ | with_reducible refine ok_bool ?_ | with_reducible refine ok_not ?_ | with_reducible refine ok_notV ?_ | with_reducible refine ok_sl ?_ | with_reducible refine ok_part ?_ | with_reducible refine ok_join ?_ | with_reducible refine ok_it ?_ | with_reducible refine ok_itA ?_ | with_reducible refine ok_call0 ?_ | with_reducible refine ok_callN ?_ | with_reducible refine ok_chain ?_ | ((with_reducible apply ok_var); rfl) | ((with_reducible apply ok_varL); rfl) | ((with_reducible apply ok_ixN); rfl) | ((with_reducible apply ok_ixM); rfl) | ((with_reducible apply ok_lenN); rfl) | ((with_reducible apply ok_lenM); rfl) | ((with_reducible apply ok_callY); rfl) | with_reducible refine dn_set ?_ | with_reducible refine dn_ret ?_ | with_reducible refine dn_retN ?_ | with_reducible refine dn_new ?_ | with_reducible refine dn_parN ?_ | with_reducible refine dn_par ?_ | with_reducible refine dn_pair ?_ | with_reducible refine dn_raise ?_ | ((with_reducible apply dn_app); rfl) | with_reducible refine dn_item ?_ | with_reducible refine sq_set ?_ | with_reducible refine sq_pair ?_ | with_reducible refine sq_par ?_ | with_reducible refine sq_parN ?_ | with_reducible refine sq_new ?_ | with_reducible refine sq_item ?_ | ((with_reducible apply sq_app); rfl) | refine ⟨_, _, _, rfl, rfl, rfl, ?_⟩ | refine ⟨_, rfl, ?_⟩ | refine ⟨⟨_, rfl⟩, ?_⟩ | refine ⟨Nat.le_of_ble_eq_true rfl, ?_⟩)
  have size : ∃ d ms', m__law_size A ms [.int n] = some (d, ms') ∧ (∃ h w : Nat, 0 < h ∧ 0 < w ∧ h ≤ 10 ∧ w ≤ 10 ∧ d = .tup [.int h, .int w]) ∧ Pot (k + 2) ms' := by
    unfold m__law_size
    refine fnY rfl (P := fun d ms' => (∃ h w : Nat, 0 < h ∧ 0 < w ∧ h ≤ 10 ∧ w ≤ 10 ∧ d = .tup [.int h, .int w]) ∧ Pot (k + 2) ms') ?_
    repeat (first | with_reducible refine ok_op ?_ | with_reducible refine ok_un ?_ | with_reducible refine ok_cb ?_ | with_reducible refine ok_cons ?_ | with_reducible refine ok_nil ?_ | with_reducible refine ok_giv ?_ | with_reducible refine ok_lst ?_ | with_reducible refine ok_tup ?_ | with_reducible refine ok_dic ?_ | with_reducible refine ok_bool ?_ | with_reducible refine ok_not ?_ | with_reducible refine ok_notV ?_ | with_reducible refine ok_sl ?_ | with_reducible refine ok_part ?_ | with_reducible refine ok_join ?_ | with_reducible refine ok_it ?_ | with_reducible refine ok_itA ?_ | with_reducible refine ok_call0 ?_ | with_reducible refine ok_callN ?_ | with_reducible refine ok_chain ?_ | ((with_reducible apply ok_var); rfl) | ((with_reducible apply ok_varL); rfl) | ((with_reducible apply ok_ixN); rfl) | ((with_reducible apply ok_ixM); rfl) | ((with_reducible apply ok_lenN); rfl) | ((with_reducible apply ok_lenM); rfl) | ((with_reducible apply ok_callY); rfl) | with_reducible refine dn_set ?_ | with_reducible refine dn_ret ?_ | with_reducible refine dn_retN ?_ | with_reducible refine dn_new ?_ | with_reducible refine dn_parN ?_ | with_reducible refine dn_par ?_ | with_reducible refine dn_pair ?_ | with_reducible refine dn_raise ?_ | ((with_reducible apply dn_app); rfl) | with_reducible refine dn_item ?_ | with_reducible refine sq_set ?_ | with_reducible refine sq_pair ?_ | with_reducible refine sq_par ?_ | with_reducible refine sq_parN ?_ | with_reducible refine sq_new ?_ | with_reducible refine sq_item ?_ | ((with_reducible apply sq_app); rfl) | refine ⟨_, _, _, rfl, rfl, rfl, ?_⟩ | refine ⟨_, rfl, ?_⟩ | refine ⟨⟨_, rfl⟩, ?_⟩ | refine ⟨Nat.le_of_ble_eq_true rfl, ?_⟩)
    obtain ⟨_, m1, e1, ⟨v, rfl, v0, v1⟩, p1⟩ := take_ok (A := A) (u := n) p (by omega) (by omega) (by omega)
    refine ⟨_, _, e1, ?_⟩
    repeat (first | with_reducible refine ok_op ?_ | with_reducible refine ok_un ?_ | with_reducible refine ok_cb ?_ | with_reducible refine ok_cons ?_ | with_reducible refine ok_nil ?_ | with_reducible refine ok_giv ?_ | with_reducible refine ok_lst ?_ | with_reducible refine ok_tup ?_ | with_reducible refine ok_dic ?_ | with_reducible refine ok_bool ?_ | with_reducible refine ok_not ?_ | with_reducible refine ok_notV ?_ | with_reducible refine ok_sl ?_ | with_reducible refine ok_part ?_ | with_reducible refine ok_join ?_ | with_reducible refine ok_it ?_ | with_reducible refine ok_itA ?_ | with_reducible refine ok_call0 ?_ | with_reducible refine ok_callN ?_ | with_reducible refine ok_chain ?_ | ((with_reducible apply ok_var); rfl) | ((with_reducible apply ok_varL); rfl) | ((with_reducible apply ok_ixN); rfl) | ((with_reducible apply ok_ixM); rfl) | ((with_reducible apply ok_lenN); rfl) | ((with_reducible apply ok_lenM); rfl) | ((with_reducible apply ok_callY); rfl) | with_reducible refine dn_set ?_ | with_reducible refine dn_ret ?_ | with_reducible refine dn_retN ?_ | with_reducible refine dn_new ?_ | with_reducible refine dn_parN ?_ | with_reducible refine dn_par ?_ | with_reducible refine dn_pair ?_ | with_reducible refine dn_raise ?_ | ((with_reducible apply dn_app); rfl) | with_reducible refine dn_item ?_ | with_reducible refine sq_set ?_ | with_reducible refine sq_pair ?_ | with_reducible refine sq_par ?_ | with_reducible refine sq_parN ?_ | with_reducible refine sq_new ?_ | with_reducible refine sq_item ?_ | ((with_reducible apply sq_app); rfl) | refine ⟨_, _, _, rfl, rfl, rfl, ?_⟩ | refine ⟨_, rfl, ?_⟩ | refine ⟨⟨_, rfl⟩, ?_⟩ | refine ⟨Nat.le_of_ble_eq_true rfl, ?_⟩)
    obtain ⟨_, m2, e2, ⟨u, rfl, u0, u1⟩, p2⟩ := take_ok (A := A) (u := n) p1 (by omega) (by omega) (by omega)
    refine ⟨_, _, e2, ?_⟩
    repeat (first | with_reducible refine ok_op ?_ | with_reducible refine ok_un ?_ | with_reducible refine ok_cb ?_ | with_reducible refine ok_cons ?_ | with_reducible refine ok_nil ?_ | with_reducible refine ok_giv ?_ | with_reducible refine ok_lst ?_ | with_reducible refine ok_tup ?_ | with_reducible refine ok_dic ?_ | with_reducible refine ok_bool ?_ | with_reducible refine ok_not ?_ | with_reducible refine ok_notV ?_ | with_reducible refine ok_sl ?_ | with_reducible refine ok_part ?_ | with_reducible refine ok_join ?_ | with_reducible refine ok_it ?_ | with_reducible refine ok_itA ?_ | with_reducible refine ok_call0 ?_ | with_reducible refine ok_callN ?_ | with_reducible refine ok_chain ?_ | ((with_reducible apply ok_var); rfl) | ((with_reducible apply ok_varL); rfl) | ((with_reducible apply ok_ixN); rfl) | ((with_reducible apply ok_ixM); rfl) | ((with_reducible apply ok_lenN); rfl) | ((with_reducible apply ok_lenM); rfl) | ((with_reducible apply ok_callY); rfl) | with_reducible refine dn_set ?_ | with_reducible refine dn_ret ?_ | with_reducible refine dn_retN ?_ | with_reducible refine dn_new ?_ | with_reducible refine dn_parN ?_ | with_reducible refine dn_par ?_ | with_reducible refine dn_pair ?_ | with_reducible refine dn_raise ?_ | ((with_reducible apply dn_app); rfl) | with_reducible refine dn_item ?_ | with_reducible refine sq_set ?_ | with_reducible refine sq_pair ?_ | with_reducible refine sq_par ?_ | with_reducible refine sq_parN ?_ | with_reducible refine sq_new ?_ | with_reducible refine sq_item ?_ | ((with_reducible apply sq_app); rfl) | refine ⟨_, _, _, rfl, rfl, rfl, ?_⟩ | refine ⟨_, rfl, ?_⟩ | refine ⟨⟨_, rfl⟩, ?_⟩ | refine ⟨Nat.le_of_ble_eq_true rfl, ?_⟩)
    exact ⟨⟨(1 + v).toNat, (1 + u).toNat, by omega, by omega, by omega, by omega, by rw [Int.toNat_of_nonneg (by omega), Int.toNat_of_nonneg (by omega)]⟩, p2.mono (by omega)⟩
  obtain ⟨_, m1, e1, ⟨h, w, a1, a2, a3, a4, rfl⟩, p1⟩ := size
  refine ⟨_, _, e1, _, _, rfl, ?_⟩
  repeat (first | with_reducible refine ok_op ?_ | with_reducible refine ok_un ?_ | with_reducible refine ok_cb ?_ | with_reducible refine ok_cons ?_ | with_reducible refine ok_nil ?_ | with_reducible refine ok_giv ?_ | with_reducible refine ok_lst ?_ | with_reducible refine ok_tup ?_ | with_reducible refine ok_dic ?_ | with_reducible refine ok_bool ?_ | with_reducible refine ok_not ?_ | with_reducible refine ok_notV ?_ | with_reducible refine ok_sl ?_ | with_reducible refine ok_part ?_ | with_reducible refine ok_join ?_ | with_reducible refine ok_it ?_ | with_reducible refine ok_itA ?_ | with_reducible refine ok_call0 ?_ | with_reducible refine ok_callN ?_ | with_reducible refine ok_chain ?_ | ((with_reducible apply ok_var); rfl) | ((with_reducible apply ok_varL); rfl) | ((with_reducible apply ok_ixN); rfl) | ((with_reducible apply ok_ixM); rfl) | ((with_reducible apply ok_lenN); rfl) | ((with_reducible apply ok_lenM); rfl) | ((with_reducible apply ok_callY); rfl) | with_reducible refine dn_set ?_ | with_reducible refine dn_ret ?_ | with_reducible refine dn_retN ?_ | with_reducible refine dn_new ?_ | with_reducible refine dn_parN ?_ | with_reducible refine dn_par ?_ | with_reducible refine dn_pair ?_ | with_reducible refine dn_raise ?_ | ((with_reducible apply dn_app); rfl) | with_reducible refine dn_item ?_ | with_reducible refine sq_set ?_ | with_reducible refine sq_pair ?_ | with_reducible refine sq_par ?_ | with_reducible refine sq_parN ?_ | with_reducible refine sq_new ?_ | with_reducible refine sq_item ?_ | ((with_reducible apply sq_app); rfl) | refine ⟨_, _, _, rfl, rfl, rfl, ?_⟩ | refine ⟨_, rfl, ?_⟩ | refine ⟨⟨_, rfl⟩, ?_⟩ | refine ⟨Nat.le_of_ble_eq_true rfl, ?_⟩)
  obtain ⟨d, m2, e2, r, p2⟩ := rows_ok (A := A) p1 (by omega) a1 a2 a3 a4
  exact ⟨_, _, e2, d, rfl, m2, rfl, ⟨h, w, a1, a2, a3, a4, r⟩, p2.mono (by omega)⟩
end L02
namespace L02
open PySem L2 Wd
/-! ### cuts -/
theorem ix0 {n d : Nat} {k : Int} (h : 0 ≤ k) : HT.sIx n d (some k) = min k.toNat n := by
  show (if k < 0 then (k + (n : Int)).toNat else min k.toNat n) = _
  rw [if_neg (by omega)]
theorem cut_to {ds : List D} {k : Int} (h : 0 ≤ k) : cutD ds none (some k) = ds.take k.toNat := by
  unfold cutD
  rw [ix0 h]
  show (ds.drop 0).take (min k.toNat ds.length - 0) = _
  rw [List.drop_zero, Nat.sub_zero]
  by_cases z : k.toNat ≤ ds.length
  · rw [Nat.min_eq_left z]
  · rw [Nat.min_eq_right (by omega), List.take_length, List.take_of_length_le (by omega)]
theorem cut_from {ds : List D} {k : Int} (h : 0 ≤ k) : cutD ds (some k) none = ds.drop k.toNat := by
  unfold cutD
  rw [ix0 h]
  show (ds.drop (min k.toNat ds.length)).take (ds.length - min k.toNat ds.length) = _
  by_cases z : k.toNat ≤ ds.length
  · rw [Nat.min_eq_left z]
    exact List.take_of_length_le (by rw [List.length_drop]; omega)
  · rw [Nat.min_eq_right (by omega), List.drop_length, List.drop_of_length_le (by omega)]
    simp
theorem cut_mid {ds : List D} {k m : Int} (h : 0 ≤ k) (q : 0 ≤ m) : (cutD ds (some k) (some m)).length ≤ m.toNat - k.toNat ∧ ∀ d ∈ cutD ds (some k) (some m), d ∈ ds := by
  unfold cutD
  rw [ix0 h, ix0 q]
  constructor
  · rw [List.length_take]; omega
  · exact fun d hd => List.mem_of_mem_drop (List.mem_of_mem_take hd)
theorem sl_to {ds : List D} {k : Int} (h : 0 ≤ k) : slF (.tup ds) none (some k) = some (.tup (ds.take k.toNat)) := by rw [← cut_to h]; rfl
theorem sl_from {ds : List D} {k : Int} (h : 0 ≤ k) : slF (.tup ds) (some k) none = some (.tup (ds.drop k.toNat)) := by rw [← cut_from h]; rfl
theorem add_tt {a b : List D} (h : a.length + b.length ≤ 100000) : addF (.tup a) (.tup b) = some (.tup (a ++ b)) := if_pos h
theorem add_ll {a b : List D} (h : a.length + b.length ≤ 100000) : addF (.lst a) (.lst b) = some (.lst (a ++ b)) := if_pos h
theorem add_ss {a b : Str} (h : a.length + b.length ≤ 100000) : addF (.str a) (.str b) = some (.str (a ++ b)) := if_pos h
/-- texts: so long at most, of signs -/
def Sx (n : Nat) (x : Str) : Prop := x.length ≤ n ∧ ∀ c ∈ x.cps.toList, c < 1114112
theorem app_len (a b : Str) : (a ++ b).length = a.length + b.length := by
  rw [len_list, len_list a, len_list b, app_list, List.length_append]
theorem app_chr {a b : Str} (h : ∀ c ∈ a.cps.toList, c < 1114112) (q : ∀ c ∈ b.cps.toList, c < 1114112) : ∀ c ∈ (a ++ b).cps.toList, c < 1114112 := by
  rw [app_list]
  exact fun c hc => (List.mem_append.mp hc).elim (h c) (q c)
theorem ss_to {x : Str} {k : Int} (h : 0 ≤ k) (hx : x.length ≤ 100000) : ∃ y, slF (.str x) none (some k) = some (.str y) ∧ y.length = min k.toNat x.length ∧ ∀ c ∈ y.cps.toList, c ∈ x.cps.toList := by
  refine ⟨cutS x none (some k), if_pos hx, ?_, fun c hc => ?_⟩
  · rw [len_list]
    unfold cutS
    rw [ix0 h]
    show ((x.cps.toList.drop 0).take (min k.toNat x.length - 0)).length = _
    rw [List.length_take, List.length_drop, ← len_list]
    omega
  · unfold cutS at hc
    exact List.mem_of_mem_drop (List.mem_of_mem_take hc)
theorem ss_from {x : Str} {k : Int} (h : 0 ≤ k) (hx : x.length ≤ 100000) : ∃ y, slF (.str x) (some k) none = some (.str y) ∧ y.length = x.length - k.toNat ∧ ∀ c ∈ y.cps.toList, c ∈ x.cps.toList := by
  refine ⟨cutS x (some k) none, if_pos hx, ?_, fun c hc => ?_⟩
  · rw [len_list]
    unfold cutS
    rw [ix0 h]
    show ((x.cps.toList.drop (min k.toNat x.length)).take (x.length - min k.toNat x.length)).length = _
    rw [List.length_take, List.length_drop, ← len_list]
    omega
  · unfold cutS at hc
    exact List.mem_of_mem_drop (List.mem_of_mem_take hc)
/-! ### values -/
def Cell (m : Nat) (d : D) : Prop := Bd 2 d ∧ ∀ x, d = .str x → x.length ≤ m
def Vl (n m : Nat) (ds : List D) : Prop := ds.length ≤ n ∧ ∀ d ∈ ds, Cell m d
/-- what a value can be -/
def Vd (n m : Nat) (d : D) : Prop := Bd 3 d ∧ ∀ ds, d = .tup ds → Vl n m ds
theorem vl_vd {n m : Nat} {ds : List D} (h : Vl n m ds) (hn : n ≤ 30) : Vd n m (.tup ds) := ⟨.tup _ _ (Nat.le_trans h.1 hn) fun d hd => (h.2 d hd).1, fun es e => by cases e; exact h⟩
theorem Cell.mono {m m' : Nat} {d : D} (h : Cell m d) (q : m ≤ m') : Cell m' d := ⟨h.1, fun x e => Nat.le_trans (h.2 x e) q⟩
theorem cell_odd {d : D} (b : Bd 2 d) : Cell 30 d := ⟨b, fun x e => by subst e; cases b with | str k x h => exact h.1⟩
theorem take_sub {ds : List D} {k : Nat} {m : Nat} (h : ∀ d ∈ ds, Cell m d) : ∀ d ∈ ds.take k, Cell m d := fun d hd => h d (List.mem_of_mem_take hd)
theorem drop_sub {ds : List D} {k : Nat} {m : Nat} (h : ∀ d ∈ ds, Cell m d) : ∀ d ∈ ds.drop k, Cell m d := fun d hd => h d (List.mem_of_mem_drop hd)
theorem app_sub {a b : List D} {m : Nat} (h : ∀ d ∈ a, Cell m d) (q : ∀ d ∈ b, Cell m d) : ∀ d ∈ a ++ b, Cell m d := fun d hd => (List.mem_append.mp hd).elim (h d) (q d)
theorem rev_ok {ds : List D} : revF (.tup ds) = some (.tup ds.reverse) := rfl
theorem spoilt_ok {A : Adr} {k : Int} {ms : List D} (p : Pot k ms) (hk : k < 2 ^ 38) {n m : Nat} {ds : List D} (v : Vl n m ds) (hn : n ≤ 20) (hm : 10 ≤ m) :
    ∃ d ms', m__law_spoilt A ms [.tup ds] = some (d, ms') ∧ Vd (n + 1) m d ∧ Pot (k + 4) ms' := by
  unfold m__law_spoilt
  refine fnY rfl (P := fun d ms' => Vd (n + 1) m d ∧ Pot (k + 4) ms') ?_
  repeat (first | with_reducible refine ok_op ?_ | with_reducible refine ok_un ?_ | with_reducible refine ok_cb ?_ | with_reducible refine ok_cons ?_ | with_reducible refine ok_nil ?_ | with_reducible refine ok_giv ?_ | with_reducible refine ok_lst ?_ | with_reducible refine ok_tup ?_ | with_reducible refine ok_dic ?_ | with_reducible refine ok_bool ?_ | with_reducible refine ok_not ?_ | with_reducible refine ok_notV ?_ | with_reducible refine ok_sl ?_ | with_reducible refine ok_part ?_ | with_reducible refine ok_join ?_ | with_reducible refine ok_it ?_ | with_reducible refine ok_itA ?_ | with_reducible refine ok_call0 ?_ | with_reducible refine ok_callN ?_ | with_reducible refine ok_chain ?_ | ((with_reducible apply ok_var); rfl) | ((with_reducible apply ok_varL); rfl) | ((with_reducible apply ok_ixN); rfl) | ((with_reducible apply ok_ixM); rfl) | ((with_reducible apply ok_lenN); rfl) | ((with_reducible apply ok_lenM); rfl) | ((with_reducible apply ok_callY); rfl) | with_reducible refine dn_set ?_ | with_reducible refine dn_ret ?_ | with_reducible refine dn_retN ?_ | with_reducible refine dn_new ?_ | with_reducible refine dn_parN ?_ | with_reducible refine dn_par ?_ | with_reducible refine dn_pair ?_ | with_reducible refine dn_raise ?_ | ((with_reducible apply dn_app); rfl) | with_reducible refine dn_item ?_ | with_reducible refine sq_set ?_ | with_reducible refine sq_pair ?_ | with_reducible refine sq_par ?_ | with_reducible refine sq_parN ?_ | with_reducible refine sq_new ?_ | with_reducible refine sq_item ?_ | ((with_reducible apply sq_app); rfl) | refine ⟨_, _, _, rfl, rfl, rfl, ?_⟩ | refine ⟨_, rfl, ?_⟩ | refine ⟨⟨_, rfl⟩, ?_⟩ | refine ⟨Nat.le_of_ble_eq_true rfl, ?_⟩)
  have v1 := v.1
  obtain ⟨_, m1, e1, ⟨a, rfl, a0, a1⟩, p1⟩ := take_ok (A := A) (u := (ds.length : Int) + 1) p (by omega) (by omega) (by omega)
  refine ⟨_, _, e1, ?_⟩
  have ta : (a + 1).toNat = a.toNat + 1 := by omega
  have t0 : a.toNat ≤ ds.length := by omega
  have a2 : 0 ≤ a + 1 := by omega
  have lt : (ds.take a.toNat).length = a.toNat := by rw [List.length_take]; omega
  have ld : (ds.drop a.toNat).length = ds.length - a.toNat := List.length_drop
  have le : (ds.drop (a + 1).toNat).length = ds.length - (a + 1).toNat := List.length_drop
  obtain ⟨c1, c2⟩ := cut_mid (ds := ds) (k := a) (m := a + 1) a0 a2
  have cm : ∀ d ∈ cutD ds (some a) (some (a + 1)), Cell m d := fun d hd => v.2 d (c2 d hd)
  repeat (first | with_reducible refine ok_op ?_ | with_reducible refine ok_un ?_ | with_reducible refine ok_cb ?_ | with_reducible refine ok_cons ?_ | with_reducible refine ok_nil ?_ | with_reducible refine ok_giv ?_ | with_reducible refine ok_lst ?_ | with_reducible refine ok_tup ?_ | with_reducible refine ok_dic ?_ | with_reducible refine ok_bool ?_ | with_reducible refine ok_not ?_ | with_reducible refine ok_notV ?_ | with_reducible refine ok_sl ?_ | with_reducible refine ok_part ?_ | with_reducible refine ok_join ?_ | with_reducible refine ok_it ?_ | with_reducible refine ok_itA ?_ | with_reducible refine ok_call0 ?_ | with_reducible refine ok_callN ?_ | with_reducible refine ok_chain ?_ | ((with_reducible apply ok_var); rfl) | ((with_reducible apply ok_varL); rfl) | ((with_reducible apply ok_ixN); rfl) | ((with_reducible apply ok_ixM); rfl) | ((with_reducible apply ok_lenN); rfl) | ((with_reducible apply ok_lenM); rfl) | ((with_reducible apply ok_callY); rfl) | with_reducible refine dn_set ?_ | with_reducible refine dn_ret ?_ | with_reducible refine dn_retN ?_ | with_reducible refine dn_new ?_ | with_reducible refine dn_parN ?_ | with_reducible refine dn_par ?_ | with_reducible refine dn_pair ?_ | with_reducible refine dn_raise ?_ | ((with_reducible apply dn_app); rfl) | with_reducible refine dn_item ?_ | with_reducible refine sq_set ?_ | with_reducible refine sq_pair ?_ | with_reducible refine sq_par ?_ | with_reducible refine sq_parN ?_ | with_reducible refine sq_new ?_ | with_reducible refine sq_item ?_ | ((with_reducible apply sq_app); rfl) | refine ⟨_, _, _, rfl, rfl, rfl, ?_⟩ | refine ⟨_, rfl, ?_⟩ | refine ⟨⟨_, rfl⟩, ?_⟩ | refine ⟨Nat.le_of_ble_eq_true rfl, ?_⟩)
  rw [cut_to a0, cut_from a2]
  refine ⟨_, add_tt (by omega), ?_⟩
  repeat (first | with_reducible refine ok_op ?_ | with_reducible refine ok_un ?_ | with_reducible refine ok_cb ?_ | with_reducible refine ok_cons ?_ | with_reducible refine ok_nil ?_ | with_reducible refine ok_giv ?_ | with_reducible refine ok_lst ?_ | with_reducible refine ok_tup ?_ | with_reducible refine ok_dic ?_ | with_reducible refine ok_bool ?_ | with_reducible refine ok_not ?_ | with_reducible refine ok_notV ?_ | with_reducible refine ok_sl ?_ | with_reducible refine ok_part ?_ | with_reducible refine ok_join ?_ | with_reducible refine ok_it ?_ | with_reducible refine ok_itA ?_ | with_reducible refine ok_call0 ?_ | with_reducible refine ok_callN ?_ | with_reducible refine ok_chain ?_ | ((with_reducible apply ok_var); rfl) | ((with_reducible apply ok_varL); rfl) | ((with_reducible apply ok_ixN); rfl) | ((with_reducible apply ok_ixM); rfl) | ((with_reducible apply ok_lenN); rfl) | ((with_reducible apply ok_lenM); rfl) | ((with_reducible apply ok_callY); rfl) | with_reducible refine dn_set ?_ | with_reducible refine dn_ret ?_ | with_reducible refine dn_retN ?_ | with_reducible refine dn_new ?_ | with_reducible refine dn_parN ?_ | with_reducible refine dn_par ?_ | with_reducible refine dn_pair ?_ | with_reducible refine dn_raise ?_ | ((with_reducible apply dn_app); rfl) | with_reducible refine dn_item ?_ | with_reducible refine sq_set ?_ | with_reducible refine sq_pair ?_ | with_reducible refine sq_par ?_ | with_reducible refine sq_parN ?_ | with_reducible refine sq_new ?_ | with_reducible refine sq_item ?_ | ((with_reducible apply sq_app); rfl) | refine ⟨_, _, _, rfl, rfl, rfl, ?_⟩ | refine ⟨_, rfl, ?_⟩ | refine ⟨⟨_, rfl⟩, ?_⟩ | refine ⟨Nat.le_of_ble_eq_true rfl, ?_⟩)
  rw [cut_to a0]
  refine ⟨_, add_tt (by omega), ?_⟩
  repeat (first | with_reducible refine ok_op ?_ | with_reducible refine ok_un ?_ | with_reducible refine ok_cb ?_ | with_reducible refine ok_cons ?_ | with_reducible refine ok_nil ?_ | with_reducible refine ok_giv ?_ | with_reducible refine ok_lst ?_ | with_reducible refine ok_tup ?_ | with_reducible refine ok_dic ?_ | with_reducible refine ok_bool ?_ | with_reducible refine ok_not ?_ | with_reducible refine ok_notV ?_ | with_reducible refine ok_sl ?_ | with_reducible refine ok_part ?_ | with_reducible refine ok_join ?_ | with_reducible refine ok_it ?_ | with_reducible refine ok_itA ?_ | with_reducible refine ok_call0 ?_ | with_reducible refine ok_callN ?_ | with_reducible refine ok_chain ?_ | ((with_reducible apply ok_var); rfl) | ((with_reducible apply ok_varL); rfl) | ((with_reducible apply ok_ixN); rfl) | ((with_reducible apply ok_ixM); rfl) | ((with_reducible apply ok_lenN); rfl) | ((with_reducible apply ok_lenM); rfl) | ((with_reducible apply ok_callY); rfl) | with_reducible refine dn_set ?_ | with_reducible refine dn_ret ?_ | with_reducible refine dn_retN ?_ | with_reducible refine dn_new ?_ | with_reducible refine dn_parN ?_ | with_reducible refine dn_par ?_ | with_reducible refine dn_pair ?_ | with_reducible refine dn_raise ?_ | ((with_reducible apply dn_app); rfl) | with_reducible refine dn_item ?_ | with_reducible refine sq_set ?_ | with_reducible refine sq_pair ?_ | with_reducible refine sq_par ?_ | with_reducible refine sq_parN ?_ | with_reducible refine sq_new ?_ | with_reducible refine sq_item ?_ | ((with_reducible apply sq_app); rfl) | refine ⟨_, _, _, rfl, rfl, rfl, ?_⟩ | refine ⟨_, rfl, ?_⟩ | refine ⟨⟨_, rfl⟩, ?_⟩ | refine ⟨Nat.le_of_ble_eq_true rfl, ?_⟩)
  rw [cut_from a0]
  refine ⟨_, add_tt (by rw [List.length_append]; omega), ?_⟩
  repeat (first | with_reducible refine ok_op ?_ | with_reducible refine ok_un ?_ | with_reducible refine ok_cb ?_ | with_reducible refine ok_cons ?_ | with_reducible refine ok_nil ?_ | with_reducible refine ok_giv ?_ | with_reducible refine ok_lst ?_ | with_reducible refine ok_tup ?_ | with_reducible refine ok_dic ?_ | with_reducible refine ok_bool ?_ | with_reducible refine ok_not ?_ | with_reducible refine ok_notV ?_ | with_reducible refine ok_sl ?_ | with_reducible refine ok_part ?_ | with_reducible refine ok_join ?_ | with_reducible refine ok_it ?_ | with_reducible refine ok_itA ?_ | with_reducible refine ok_call0 ?_ | with_reducible refine ok_callN ?_ | with_reducible refine ok_chain ?_ | ((with_reducible apply ok_var); rfl) | ((with_reducible apply ok_varL); rfl) | ((with_reducible apply ok_ixN); rfl) | ((with_reducible apply ok_ixM); rfl) | ((with_reducible apply ok_lenN); rfl) | ((with_reducible apply ok_lenM); rfl) | ((with_reducible apply ok_callY); rfl) | with_reducible refine dn_set ?_ | with_reducible refine dn_ret ?_ | with_reducible refine dn_retN ?_ | with_reducible refine dn_new ?_ | with_reducible refine dn_parN ?_ | with_reducible refine dn_par ?_ | with_reducible refine dn_pair ?_ | with_reducible refine dn_raise ?_ | ((with_reducible apply dn_app); rfl) | with_reducible refine dn_item ?_ | with_reducible refine sq_set ?_ | with_reducible refine sq_pair ?_ | with_reducible refine sq_par ?_ | with_reducible refine sq_parN ?_ | with_reducible refine sq_new ?_ | with_reducible refine sq_item ?_ | ((with_reducible apply sq_app); rfl) | refine ⟨_, _, _, rfl, rfl, rfl, ?_⟩ | refine ⟨_, rfl, ?_⟩ | refine ⟨⟨_, rfl⟩, ?_⟩ | refine ⟨Nat.le_of_ble_eq_true rfl, ?_⟩)
  rw [cut_to a0]
  obtain ⟨o1, m2, e2, ⟨b1, b1'⟩, p2⟩ := odd_ok (A := A) p1 (by omega)
  refine ⟨_, _, e2, ?_⟩
  repeat (first | with_reducible refine ok_op ?_ | with_reducible refine ok_un ?_ | with_reducible refine ok_cb ?_ | with_reducible refine ok_cons ?_ | with_reducible refine ok_nil ?_ | with_reducible refine ok_giv ?_ | with_reducible refine ok_lst ?_ | with_reducible refine ok_tup ?_ | with_reducible refine ok_dic ?_ | with_reducible refine ok_bool ?_ | with_reducible refine ok_not ?_ | with_reducible refine ok_notV ?_ | with_reducible refine ok_sl ?_ | with_reducible refine ok_part ?_ | with_reducible refine ok_join ?_ | with_reducible refine ok_it ?_ | with_reducible refine ok_itA ?_ | with_reducible refine ok_call0 ?_ | with_reducible refine ok_callN ?_ | with_reducible refine ok_chain ?_ | ((with_reducible apply ok_var); rfl) | ((with_reducible apply ok_varL); rfl) | ((with_reducible apply ok_ixN); rfl) | ((with_reducible apply ok_ixM); rfl) | ((with_reducible apply ok_lenN); rfl) | ((with_reducible apply ok_lenM); rfl) | ((with_reducible apply ok_callY); rfl) | with_reducible refine dn_set ?_ | with_reducible refine dn_ret ?_ | with_reducible refine dn_retN ?_ | with_reducible refine dn_new ?_ | with_reducible refine dn_parN ?_ | with_reducible refine dn_par ?_ | with_reducible refine dn_pair ?_ | with_reducible refine dn_raise ?_ | ((with_reducible apply dn_app); rfl) | with_reducible refine dn_item ?_ | with_reducible refine sq_set ?_ | with_reducible refine sq_pair ?_ | with_reducible refine sq_par ?_ | with_reducible refine sq_parN ?_ | with_reducible refine sq_new ?_ | with_reducible refine sq_item ?_ | ((with_reducible apply sq_app); rfl) | refine ⟨_, _, _, rfl, rfl, rfl, ?_⟩ | refine ⟨_, rfl, ?_⟩ | refine ⟨⟨_, rfl⟩, ?_⟩ | refine ⟨Nat.le_of_ble_eq_true rfl, ?_⟩)
  refine ⟨_, add_tt (by rw [lt]; simp; omega), ?_⟩
  repeat (first | with_reducible refine ok_op ?_ | with_reducible refine ok_un ?_ | with_reducible refine ok_cb ?_ | with_reducible refine ok_cons ?_ | with_reducible refine ok_nil ?_ | with_reducible refine ok_giv ?_ | with_reducible refine ok_lst ?_ | with_reducible refine ok_tup ?_ | with_reducible refine ok_dic ?_ | with_reducible refine ok_bool ?_ | with_reducible refine ok_not ?_ | with_reducible refine ok_notV ?_ | with_reducible refine ok_sl ?_ | with_reducible refine ok_part ?_ | with_reducible refine ok_join ?_ | with_reducible refine ok_it ?_ | with_reducible refine ok_itA ?_ | with_reducible refine ok_call0 ?_ | with_reducible refine ok_callN ?_ | with_reducible refine ok_chain ?_ | ((with_reducible apply ok_var); rfl) | ((with_reducible apply ok_varL); rfl) | ((with_reducible apply ok_ixN); rfl) | ((with_reducible apply ok_ixM); rfl) | ((with_reducible apply ok_lenN); rfl) | ((with_reducible apply ok_lenM); rfl) | ((with_reducible apply ok_callY); rfl) | with_reducible refine dn_set ?_ | with_reducible refine dn_ret ?_ | with_reducible refine dn_retN ?_ | with_reducible refine dn_new ?_ | with_reducible refine dn_parN ?_ | with_reducible refine dn_par ?_ | with_reducible refine dn_pair ?_ | with_reducible refine dn_raise ?_ | ((with_reducible apply dn_app); rfl) | with_reducible refine dn_item ?_ | with_reducible refine sq_set ?_ | with_reducible refine sq_pair ?_ | with_reducible refine sq_par ?_ | with_reducible refine sq_parN ?_ | with_reducible refine sq_new ?_ | with_reducible refine sq_item ?_ | ((with_reducible apply sq_app); rfl) | refine ⟨_, _, _, rfl, rfl, rfl, ?_⟩ | refine ⟨_, rfl, ?_⟩ | refine ⟨⟨_, rfl⟩, ?_⟩ | refine ⟨Nat.le_of_ble_eq_true rfl, ?_⟩)
  rw [cut_from a0]
  refine ⟨_, add_tt (by rw [List.length_append, lt, ld]; simp; omega), ?_⟩
  repeat (first | with_reducible refine ok_op ?_ | with_reducible refine ok_un ?_ | with_reducible refine ok_cb ?_ | with_reducible refine ok_cons ?_ | with_reducible refine ok_nil ?_ | with_reducible refine ok_giv ?_ | with_reducible refine ok_lst ?_ | with_reducible refine ok_tup ?_ | with_reducible refine ok_dic ?_ | with_reducible refine ok_bool ?_ | with_reducible refine ok_not ?_ | with_reducible refine ok_notV ?_ | with_reducible refine ok_sl ?_ | with_reducible refine ok_part ?_ | with_reducible refine ok_join ?_ | with_reducible refine ok_it ?_ | with_reducible refine ok_itA ?_ | with_reducible refine ok_call0 ?_ | with_reducible refine ok_callN ?_ | with_reducible refine ok_chain ?_ | ((with_reducible apply ok_var); rfl) | ((with_reducible apply ok_varL); rfl) | ((with_reducible apply ok_ixN); rfl) | ((with_reducible apply ok_ixM); rfl) | ((with_reducible apply ok_lenN); rfl) | ((with_reducible apply ok_lenM); rfl) | ((with_reducible apply ok_callY); rfl) | with_reducible refine dn_set ?_ | with_reducible refine dn_ret ?_ | with_reducible refine dn_retN ?_ | with_reducible refine dn_new ?_ | with_reducible refine dn_parN ?_ | with_reducible refine dn_par ?_ | with_reducible refine dn_pair ?_ | with_reducible refine dn_raise ?_ | ((with_reducible apply dn_app); rfl) | with_reducible refine dn_item ?_ | with_reducible refine sq_set ?_ | with_reducible refine sq_pair ?_ | with_reducible refine sq_par ?_ | with_reducible refine sq_parN ?_ | with_reducible refine sq_new ?_ | with_reducible refine sq_item ?_ | ((with_reducible apply sq_app); rfl) | refine ⟨_, _, _, rfl, rfl, rfl, ?_⟩ | refine ⟨_, rfl, ?_⟩ | refine ⟨⟨_, rfl⟩, ?_⟩ | refine ⟨Nat.le_of_ble_eq_true rfl, ?_⟩)
  rw [cut_to a0]
  obtain ⟨o2, m3, e3, ⟨b2, b2'⟩, p3⟩ := odd_ok (A := A) p2 (by omega)
  refine ⟨_, _, e3, ?_⟩
  repeat (first | with_reducible refine ok_op ?_ | with_reducible refine ok_un ?_ | with_reducible refine ok_cb ?_ | with_reducible refine ok_cons ?_ | with_reducible refine ok_nil ?_ | with_reducible refine ok_giv ?_ | with_reducible refine ok_lst ?_ | with_reducible refine ok_tup ?_ | with_reducible refine ok_dic ?_ | with_reducible refine ok_bool ?_ | with_reducible refine ok_not ?_ | with_reducible refine ok_notV ?_ | with_reducible refine ok_sl ?_ | with_reducible refine ok_part ?_ | with_reducible refine ok_join ?_ | with_reducible refine ok_it ?_ | with_reducible refine ok_itA ?_ | with_reducible refine ok_call0 ?_ | with_reducible refine ok_callN ?_ | with_reducible refine ok_chain ?_ | ((with_reducible apply ok_var); rfl) | ((with_reducible apply ok_varL); rfl) | ((with_reducible apply ok_ixN); rfl) | ((with_reducible apply ok_ixM); rfl) | ((with_reducible apply ok_lenN); rfl) | ((with_reducible apply ok_lenM); rfl) | ((with_reducible apply ok_callY); rfl) | with_reducible refine dn_set ?_ | with_reducible refine dn_ret ?_ | with_reducible refine dn_retN ?_ | with_reducible refine dn_new ?_ | with_reducible refine dn_parN ?_ | with_reducible refine dn_par ?_ | with_reducible refine dn_pair ?_ | with_reducible refine dn_raise ?_ | ((with_reducible apply dn_app); rfl) | with_reducible refine dn_item ?_ | with_reducible refine sq_set ?_ | with_reducible refine sq_pair ?_ | with_reducible refine sq_par ?_ | with_reducible refine sq_parN ?_ | with_reducible refine sq_new ?_ | with_reducible refine sq_item ?_ | ((with_reducible apply sq_app); rfl) | refine ⟨_, _, _, rfl, rfl, rfl, ?_⟩ | refine ⟨_, rfl, ?_⟩ | refine ⟨⟨_, rfl⟩, ?_⟩ | refine ⟨Nat.le_of_ble_eq_true rfl, ?_⟩)
  refine ⟨_, add_tt (by rw [lt]; simp; omega), ?_⟩
  repeat (first | with_reducible refine ok_op ?_ | with_reducible refine ok_un ?_ | with_reducible refine ok_cb ?_ | with_reducible refine ok_cons ?_ | with_reducible refine ok_nil ?_ | with_reducible refine ok_giv ?_ | with_reducible refine ok_lst ?_ | with_reducible refine ok_tup ?_ | with_reducible refine ok_dic ?_ | with_reducible refine ok_bool ?_ | with_reducible refine ok_not ?_ | with_reducible refine ok_notV ?_ | with_reducible refine ok_sl ?_ | with_reducible refine ok_part ?_ | with_reducible refine ok_join ?_ | with_reducible refine ok_it ?_ | with_reducible refine ok_itA ?_ | with_reducible refine ok_call0 ?_ | with_reducible refine ok_callN ?_ | with_reducible refine ok_chain ?_ | ((with_reducible apply ok_var); rfl) | ((with_reducible apply ok_varL); rfl) | ((with_reducible apply ok_ixN); rfl) | ((with_reducible apply ok_ixM); rfl) | ((with_reducible apply ok_lenN); rfl) | ((with_reducible apply ok_lenM); rfl) | ((with_reducible apply ok_callY); rfl) | with_reducible refine dn_set ?_ | with_reducible refine dn_ret ?_ | with_reducible refine dn_retN ?_ | with_reducible refine dn_new ?_ | with_reducible refine dn_parN ?_ | with_reducible refine dn_par ?_ | with_reducible refine dn_pair ?_ | with_reducible refine dn_raise ?_ | ((with_reducible apply dn_app); rfl) | with_reducible refine dn_item ?_ | with_reducible refine sq_set ?_ | with_reducible refine sq_pair ?_ | with_reducible refine sq_par ?_ | with_reducible refine sq_parN ?_ | with_reducible refine sq_new ?_ | with_reducible refine sq_item ?_ | ((with_reducible apply sq_app); rfl) | refine ⟨_, _, _, rfl, rfl, rfl, ?_⟩ | refine ⟨_, rfl, ?_⟩ | refine ⟨⟨_, rfl⟩, ?_⟩ | refine ⟨Nat.le_of_ble_eq_true rfl, ?_⟩)
  rw [cut_from a2]
  refine ⟨_, add_tt (by rw [List.length_append, lt, le]; simp; omega), ?_⟩
  repeat (first | with_reducible refine ok_op ?_ | with_reducible refine ok_un ?_ | with_reducible refine ok_cb ?_ | with_reducible refine ok_cons ?_ | with_reducible refine ok_nil ?_ | with_reducible refine ok_giv ?_ | with_reducible refine ok_lst ?_ | with_reducible refine ok_tup ?_ | with_reducible refine ok_dic ?_ | with_reducible refine ok_bool ?_ | with_reducible refine ok_not ?_ | with_reducible refine ok_notV ?_ | with_reducible refine ok_sl ?_ | with_reducible refine ok_part ?_ | with_reducible refine ok_join ?_ | with_reducible refine ok_it ?_ | with_reducible refine ok_itA ?_ | with_reducible refine ok_call0 ?_ | with_reducible refine ok_callN ?_ | with_reducible refine ok_chain ?_ | ((with_reducible apply ok_var); rfl) | ((with_reducible apply ok_varL); rfl) | ((with_reducible apply ok_ixN); rfl) | ((with_reducible apply ok_ixM); rfl) | ((with_reducible apply ok_lenN); rfl) | ((with_reducible apply ok_lenM); rfl) | ((with_reducible apply ok_callY); rfl) | with_reducible refine dn_set ?_ | with_reducible refine dn_ret ?_ | with_reducible refine dn_retN ?_ | with_reducible refine dn_new ?_ | with_reducible refine dn_parN ?_ | with_reducible refine dn_par ?_ | with_reducible refine dn_pair ?_ | with_reducible refine dn_raise ?_ | ((with_reducible apply dn_app); rfl) | with_reducible refine dn_item ?_ | with_reducible refine sq_set ?_ | with_reducible refine sq_pair ?_ | with_reducible refine sq_par ?_ | with_reducible refine sq_parN ?_ | with_reducible refine sq_new ?_ | with_reducible refine sq_item ?_ | ((with_reducible apply sq_app); rfl) | refine ⟨_, _, _, rfl, rfl, rfl, ?_⟩ | refine ⟨_, rfl, ?_⟩ | refine ⟨⟨_, rfl⟩, ?_⟩ | refine ⟨Nat.le_of_ble_eq_true rfl, ?_⟩)
  obtain ⟨d, m4, e4, hd, p4⟩ := of_ok (A := A) (l := [.lst ds, .tup ds.reverse, .tup (ds.take a.toNat ++ ds.drop (a + 1).toNat), .tup (ds.take a.toNat ++ cutD ds (some a) (some (a + 1)) ++ ds.drop a.toNat)] ++ [.tup (ds.take a.toNat ++ [o1] ++ ds.drop a.toNat)] ++ [.tup (ds.take a.toNat ++ [o2] ++ ds.drop (a + 1).toNat)]) p3 (by omega) (by simp) (by simp)
  refine ⟨_, _, e4, d, rfl, m4, rfl, ?_, p4.mono (by omega)⟩
  have one : ∀ {o : D}, Bd 2 o → (∀ x, o = .str x → x.length ≤ 10) → ∀ d ∈ [o], Cell m d := fun h q d hd => by
    rw [List.mem_singleton.mp hd]
    exact ⟨h, fun x e => Nat.le_trans (q x e) hm⟩
  have tk := take_sub (k := a.toNat) v.2
  have dr := drop_sub (k := a.toNat) v.2
  have dr' := drop_sub (k := (a + 1).toNat) v.2
  simp only [List.cons_append, List.nil_append, List.mem_cons, List.not_mem_nil, or_false] at hd
  rcases hd with rfl | rfl | rfl | rfl | rfl | rfl
  · exact ⟨.lst _ _ (by omega) fun d hd => (v.2 d hd).1, fun es e => nomatch e⟩
  · exact vl_vd ⟨by rw [List.length_reverse]; omega, fun d hd => v.2 d (List.mem_reverse.mp hd)⟩ (by omega)
  · exact vl_vd ⟨by rw [List.length_append]; omega, app_sub tk dr'⟩ (by omega)
  · exact vl_vd ⟨by rw [List.length_append, List.length_append]; omega, app_sub (app_sub tk cm) dr⟩ (by omega)
  · exact vl_vd ⟨by rw [List.length_append, List.length_append, List.length_singleton]; omega, app_sub (app_sub tk (one b1 b1')) dr⟩ (by omega)
  · exact vl_vd ⟨by rw [List.length_append, List.length_append, List.length_singleton]; omega, app_sub (app_sub tk (one b2 b2')) dr'⟩ (by omega)
theorem Vd.mono {n m n' m' : Nat} {d : D} (h : Vd n m d) (q : n ≤ n') (r : m ≤ m') : Vd n' m' d := ⟨h.1, fun ds e => ⟨Nat.le_trans (h.2 ds e).1 q, fun x hx => ((h.2 ds e).2 x hx).mono r⟩⟩
theorem cell_str {m : Nat} {x : Str} (h : x.length ≤ m) (hm : m ≤ 30) (q : ∀ c ∈ x.cps.toList, c < 1114112) : Cell m (.str x) := ⟨.str _ _ ⟨Nat.le_trans h hm, q⟩, fun y e => by cases e; exact h⟩
theorem Cell.chr {m : Nat} {x : Str} (h : Cell m (.str x)) : x.length ≤ m ∧ ∀ c ∈ x.cps.toList, c < 1114112 := ⟨h.2 x rfl, by cases h.1 with | str k x h => exact h.2⟩
theorem is_ty {A : Adr} {p : D → Bool} {d : D} {k : Nat} (b : Bd k d) : isTy A p d = some (.bl (p d)) := by cases b <;> rfl
/-- what stands in a row's middle -/
theorem mid_ok {m : Nat} {x : Str} {s u : Int} (h : Cell m (.str x)) (hm : m ≤ 30) (hs : 0 ≤ s) (hu : 0 ≤ u) {y : Str} (hy : y.length ≤ 2) (hc : ∀ c ∈ y.cps.toList, c < 1114112) (le : s ≤ u) :
    ∃ a b, slF (.str x) none (some s) = some (.str a) ∧ slF (.str x) (some u) none = some (.str b) ∧ a.length ≤ 30 ∧ b.length ≤ 30 ∧ (a ++ y ++ b).length ≤ m + 2 ∧ (∀ c ∈ (a ++ y ++ b).cps.toList, c < 1114112) ∧ (a ++ b).length ≤ m ∧ ∀ c ∈ (a ++ b).cps.toList, c < 1114112 := by
  obtain ⟨h1, h2⟩ := h.chr
  obtain ⟨a, a1, a2, a3⟩ := ss_to (x := x) hs (by omega)
  obtain ⟨b, b1, b2, b3⟩ := ss_from (x := x) hu (by omega)
  have ca : ∀ c ∈ a.cps.toList, c < 1114112 := fun c hc => h2 c (a3 c hc)
  have cb : ∀ c ∈ b.cps.toList, c < 1114112 := fun c hc => h2 c (b3 c hc)
  exact ⟨a, b, a1, b1, by omega, by omega, by rw [app_len, app_len]; omega, app_chr (app_chr ca hc) cb, by rw [app_len]; omega, app_chr ca cb⟩
theorem len_str {x : Str} (h : x.length ≤ 100000) : lenF [.str x] = some (.int (x.length : Int)) := if_pos h
theorem mul_s {x : Str} {j : Int} (h0 : 0 ≤ j) (h1 : j ≤ 1000) (h2 : x.length ≤ 1000) : mulX (.str x) (.int j) = some (.str (repS x j)) := by
  show (if (decide (0 ≤ j) && decide (j ≤ 1000) && decide (x.length ≤ 1000)) = true then some (D.str (repS x j)) else none) = _
  rw [decide_eq_true h0, decide_eq_true h1, decide_eq_true h2]
  rfl
theorem rep_len {x : Str} {j : Int} : (repS x j).length = j.toNat * x.length := by
  rw [len_list, len_list]
  show (List.replicate j.toNat x.cps.toList).flatten.toArray.toList.length = _
  rw [List.length_flatten, List.map_replicate, List.sum_replicate_nat]
theorem rep_chr {x : Str} {j : Int} (h : ∀ c ∈ x.cps.toList, c < 1114112) : ∀ c ∈ (repS x j).cps.toList, c < 1114112 := fun c hc => by
  have hc' : c ∈ (List.replicate j.toNat x.cps.toList).flatten := hc
  obtain ⟨l, hl, q⟩ := List.mem_flatten.mp hc'
  rw [(List.mem_replicate.mp hl).2] at q
  exact h c q
def f2 (s : Int) : D → D
  | .str x => .str (cutS x none (some s) ++ cutS x (some (s + 1)) none)
  | d => d
def f3 (s : Int) : D → D
  | .str x => .str (cutS x none (some s) ++ "." ++ cutS x (some (s + 1)) none)
  | d => d
theorem dot_chr : ∀ c ∈ (("." : String) : Str).cps.toList, c < 1114112 := by decide
theorem sl_to' {x : Str} {s : Int} (h : x.length ≤ 100000) : slF (.str x) none (some s) = some (.str (cutS x none (some s))) := if_pos h
theorem sl_from' {x : Str} {s : Int} (h : x.length ≤ 100000) : slF (.str x) (some s) none = some (.str (cutS x (some s) none)) := if_pos h
theorem cut_small {m : Nat} {x : Str} {s : Int} (h : Cell m (.str x)) (hm : m ≤ 28) (hs : 0 ≤ s) : (cutS x none (some s)).length ≤ 30 ∧ (cutS x (some s) none).length ≤ 30 := by
  have l := h.chr.1
  obtain ⟨a, b, h1, h2, h3, h4, _⟩ := mid_ok (s := s) (u := s) h (by omega) hs hs (y := "") (by decide) (fun c hc => by cases hc) (by omega)
  rw [sl_to' (by omega)] at h1
  rw [sl_from' (by omega)] at h2
  cases h1
  cases h2
  exact ⟨h3, h4⟩
theorem f2_cell {m : Nat} {s : Int} (hs : 0 ≤ s) (hm : m ≤ 28) {d : D} (h : Cell m d) : Cell (m + 2) (f2 s d) := by
  unfold f2
  split
  · rename_i x
    have l := h.chr.1
    obtain ⟨a, b, h1, h2, _, _, _, _, h3, h4⟩ := mid_ok (s := s) (u := s + 1) h (by omega) hs (by omega) (y := "") (by decide) (fun c hc => by cases hc) (by omega)
    rw [sl_to' (by omega)] at h1
    rw [sl_from' (by omega)] at h2
    cases h1
    cases h2
    exact cell_str (by omega) (by omega) h4
  · exact h.mono (by omega)
theorem f3_cell {m : Nat} {s : Int} (hs : 0 ≤ s) (hm : m ≤ 28) {d : D} (h : Cell m d) : Cell (m + 2) (f3 s d) := by
  unfold f3
  split
  · rename_i x
    have l := h.chr.1
    obtain ⟨a, b, h1, h2, _, _, h3, h4, _, _⟩ := mid_ok (s := s) (u := s + 1) h (by omega) hs (by omega) (y := ".") (by decide) dot_chr (by omega)
    rw [sl_to' (by omega)] at h1
    rw [sl_from' (by omega)] at h2
    cases h1
    cases h2
    exact cell_str h3 (by omega) h4
  · exact h.mono (by omega)
theorem bent_ok {A : Adr} {k : Int} {ms : List D} (p : Pot k ms) (hk : k < 2 ^ 37) {n m : Nat} {ds : List D} (v : Vl n m ds) (hn : n ≤ 20) (hm : 10 ≤ m) (hm2 : m ≤ 28) (h0 : 0 < ds.length) :
    ∃ d ms', m__law_bent_rows A ms [.tup ds] = some (d, ms') ∧ Vd (n + 1) (m + 2) d ∧ Pot (k + 8) ms' := by
  unfold m__law_bent_rows
  refine fnY rfl (P := fun d ms' => Vd (n + 1) (m + 2) d ∧ Pot (k + 8) ms') ?_
  have v1 := v.1
  repeat (first | with_reducible refine ok_op ?_ | with_reducible refine ok_un ?_ | with_reducible refine ok_cb ?_ | with_reducible refine ok_cons ?_ | with_reducible refine ok_nil ?_ | with_reducible refine ok_giv ?_ | with_reducible refine ok_lst ?_ | with_reducible refine ok_tup ?_ | with_reducible refine ok_dic ?_ | with_reducible refine ok_bool ?_ | with_reducible refine ok_not ?_ | with_reducible refine ok_notV ?_ | with_reducible refine ok_sl ?_ | with_reducible refine ok_part ?_ | with_reducible refine ok_join ?_ | with_reducible refine ok_it ?_ | with_reducible refine ok_itA ?_ | with_reducible refine ok_call0 ?_ | with_reducible refine ok_callN ?_ | with_reducible refine ok_chain ?_ | ((with_reducible apply ok_var); rfl) | ((with_reducible apply ok_varL); rfl) | ((with_reducible apply ok_ixN); rfl) | ((with_reducible apply ok_ixM); rfl) | ((with_reducible apply ok_lenN); rfl) | ((with_reducible apply ok_lenM); rfl) | ((with_reducible apply ok_callY); rfl) | with_reducible refine dn_set ?_ | with_reducible refine dn_ret ?_ | with_reducible refine dn_retN ?_ | with_reducible refine dn_new ?_ | with_reducible refine dn_parN ?_ | with_reducible refine dn_par ?_ | with_reducible refine dn_pair ?_ | with_reducible refine dn_raise ?_ | ((with_reducible apply dn_app); rfl) | with_reducible refine dn_item ?_ | with_reducible refine sq_set ?_ | with_reducible refine sq_pair ?_ | with_reducible refine sq_par ?_ | with_reducible refine sq_parN ?_ | with_reducible refine sq_new ?_ | with_reducible refine sq_item ?_ | ((with_reducible apply sq_app); rfl) | refine ⟨_, _, _, rfl, rfl, rfl, ?_⟩ | refine ⟨_, rfl, ?_⟩ | refine ⟨⟨_, rfl⟩, ?_⟩ | refine ⟨Nat.le_of_ble_eq_true rfl, ?_⟩)
  obtain ⟨_, m1, e1, ⟨a, rfl, a0, a1⟩, p1⟩ := take_ok (A := A) (u := (ds.length : Int)) p (by omega) (by omega) (by omega)
  refine ⟨_, _, e1, ?_⟩
  repeat (first | with_reducible refine ok_op ?_ | with_reducible refine ok_un ?_ | with_reducible refine ok_cb ?_ | with_reducible refine ok_cons ?_ | with_reducible refine ok_nil ?_ | with_reducible refine ok_giv ?_ | with_reducible refine ok_lst ?_ | with_reducible refine ok_tup ?_ | with_reducible refine ok_dic ?_ | with_reducible refine ok_bool ?_ | with_reducible refine ok_not ?_ | with_reducible refine ok_notV ?_ | with_reducible refine ok_sl ?_ | with_reducible refine ok_part ?_ | with_reducible refine ok_join ?_ | with_reducible refine ok_it ?_ | with_reducible refine ok_itA ?_ | with_reducible refine ok_call0 ?_ | with_reducible refine ok_callN ?_ | with_reducible refine ok_chain ?_ | ((with_reducible apply ok_var); rfl) | ((with_reducible apply ok_varL); rfl) | ((with_reducible apply ok_ixN); rfl) | ((with_reducible apply ok_ixM); rfl) | ((with_reducible apply ok_lenN); rfl) | ((with_reducible apply ok_lenM); rfl) | ((with_reducible apply ok_callY); rfl) | with_reducible refine dn_set ?_ | with_reducible refine dn_ret ?_ | with_reducible refine dn_retN ?_ | with_reducible refine dn_new ?_ | with_reducible refine dn_parN ?_ | with_reducible refine dn_par ?_ | with_reducible refine dn_pair ?_ | with_reducible refine dn_raise ?_ | ((with_reducible apply dn_app); rfl) | with_reducible refine dn_item ?_ | with_reducible refine sq_set ?_ | with_reducible refine sq_pair ?_ | with_reducible refine sq_par ?_ | with_reducible refine sq_parN ?_ | with_reducible refine sq_new ?_ | with_reducible refine sq_item ?_ | ((with_reducible apply sq_app); rfl) | refine ⟨_, _, _, rfl, rfl, rfl, ?_⟩ | refine ⟨_, rfl, ?_⟩ | refine ⟨⟨_, rfl⟩, ?_⟩ | refine ⟨Nat.le_of_ble_eq_true rfl, ?_⟩)
  obtain ⟨_, m2, e2, ⟨way, rfl, y0, y1⟩, p2⟩ := take_ok (A := A) (u := 6) p1 (by omega) (by decide) (by decide)
  refine ⟨_, _, e2, ?_⟩
  repeat (first | with_reducible refine ok_op ?_ | with_reducible refine ok_un ?_ | with_reducible refine ok_cb ?_ | with_reducible refine ok_cons ?_ | with_reducible refine ok_nil ?_ | with_reducible refine ok_giv ?_ | with_reducible refine ok_lst ?_ | with_reducible refine ok_tup ?_ | with_reducible refine ok_dic ?_ | with_reducible refine ok_bool ?_ | with_reducible refine ok_not ?_ | with_reducible refine ok_notV ?_ | with_reducible refine ok_sl ?_ | with_reducible refine ok_part ?_ | with_reducible refine ok_join ?_ | with_reducible refine ok_it ?_ | with_reducible refine ok_itA ?_ | with_reducible refine ok_call0 ?_ | with_reducible refine ok_callN ?_ | with_reducible refine ok_chain ?_ | ((with_reducible apply ok_var); rfl) | ((with_reducible apply ok_varL); rfl) | ((with_reducible apply ok_ixN); rfl) | ((with_reducible apply ok_ixM); rfl) | ((with_reducible apply ok_lenN); rfl) | ((with_reducible apply ok_lenM); rfl) | ((with_reducible apply ok_callY); rfl) | with_reducible refine dn_set ?_ | with_reducible refine dn_ret ?_ | with_reducible refine dn_retN ?_ | with_reducible refine dn_new ?_ | with_reducible refine dn_parN ?_ | with_reducible refine dn_par ?_ | with_reducible refine dn_pair ?_ | with_reducible refine dn_raise ?_ | ((with_reducible apply dn_app); rfl) | with_reducible refine dn_item ?_ | with_reducible refine sq_set ?_ | with_reducible refine sq_pair ?_ | with_reducible refine sq_par ?_ | with_reducible refine sq_parN ?_ | with_reducible refine sq_new ?_ | with_reducible refine sq_item ?_ | ((with_reducible apply sq_app); rfl) | refine ⟨_, _, _, rfl, rfl, rfl, ?_⟩ | refine ⟨_, rfl, ?_⟩ | refine ⟨⟨_, rfl⟩, ?_⟩ | refine ⟨Nat.le_of_ble_eq_true rfl, ?_⟩)
  refine ⟨_, _, rfl, ?_⟩
  obtain ⟨c, hc, cm⟩ := atT a0 a1
  have cc := v.2 c cm
  repeat (first | with_reducible refine ok_op ?_ | with_reducible refine ok_un ?_ | with_reducible refine ok_cb ?_ | with_reducible refine ok_cons ?_ | with_reducible refine ok_nil ?_ | with_reducible refine ok_giv ?_ | with_reducible refine ok_lst ?_ | with_reducible refine ok_tup ?_ | with_reducible refine ok_dic ?_ | with_reducible refine ok_bool ?_ | with_reducible refine ok_not ?_ | with_reducible refine ok_notV ?_ | with_reducible refine ok_sl ?_ | with_reducible refine ok_part ?_ | with_reducible refine ok_join ?_ | with_reducible refine ok_it ?_ | with_reducible refine ok_itA ?_ | with_reducible refine ok_call0 ?_ | with_reducible refine ok_callN ?_ | with_reducible refine ok_chain ?_ | ((with_reducible apply ok_var); rfl) | ((with_reducible apply ok_varL); rfl) | ((with_reducible apply ok_ixN); rfl) | ((with_reducible apply ok_ixM); rfl) | ((with_reducible apply ok_lenN); rfl) | ((with_reducible apply ok_lenM); rfl) | ((with_reducible apply ok_callY); rfl) | with_reducible refine dn_set ?_ | with_reducible refine dn_ret ?_ | with_reducible refine dn_retN ?_ | with_reducible refine dn_new ?_ | with_reducible refine dn_parN ?_ | with_reducible refine dn_par ?_ | with_reducible refine dn_pair ?_ | with_reducible refine dn_raise ?_ | ((with_reducible apply dn_app); rfl) | with_reducible refine dn_item ?_ | with_reducible refine sq_set ?_ | with_reducible refine sq_pair ?_ | with_reducible refine sq_par ?_ | with_reducible refine sq_parN ?_ | with_reducible refine sq_new ?_ | with_reducible refine sq_item ?_ | ((with_reducible apply sq_app); rfl) | refine ⟨_, _, _, rfl, rfl, rfl, ?_⟩ | refine ⟨_, rfl, ?_⟩ | refine ⟨⟨_, rfl⟩, ?_⟩ | refine ⟨Nat.le_of_ble_eq_true rfl, ?_⟩)
  refine Ok.mono (P := fun d ε => (∃ x, d = .str x ∧ Cell m (.str x)) ∧ ε = (((((startS 9 (Slo.mls ms) [D.tup ds]).set 0 (Slo.mls m1)).set 0 (Slo.mls m2)).set 2 (Slo.dat (D.int a))).set 3 (Slo.dat (D.int way)))) (ok_if ?_) ?_
  · repeat (first | with_reducible refine ok_op ?_ | with_reducible refine ok_un ?_ | with_reducible refine ok_cb ?_ | with_reducible refine ok_cons ?_ | with_reducible refine ok_nil ?_ | with_reducible refine ok_giv ?_ | with_reducible refine ok_lst ?_ | with_reducible refine ok_tup ?_ | with_reducible refine ok_dic ?_ | with_reducible refine ok_bool ?_ | with_reducible refine ok_not ?_ | with_reducible refine ok_notV ?_ | with_reducible refine ok_sl ?_ | with_reducible refine ok_part ?_ | with_reducible refine ok_join ?_ | with_reducible refine ok_it ?_ | with_reducible refine ok_itA ?_ | with_reducible refine ok_call0 ?_ | with_reducible refine ok_callN ?_ | with_reducible refine ok_chain ?_ | ((with_reducible apply ok_var); rfl) | ((with_reducible apply ok_varL); rfl) | ((with_reducible apply ok_ixN); rfl) | ((with_reducible apply ok_ixM); rfl) | ((with_reducible apply ok_lenN); rfl) | ((with_reducible apply ok_lenM); rfl) | ((with_reducible apply ok_callY); rfl) | with_reducible refine dn_set ?_ | with_reducible refine dn_ret ?_ | with_reducible refine dn_retN ?_ | with_reducible refine dn_new ?_ | with_reducible refine dn_parN ?_ | with_reducible refine dn_par ?_ | with_reducible refine dn_pair ?_ | with_reducible refine dn_raise ?_ | ((with_reducible apply dn_app); rfl) | with_reducible refine dn_item ?_ | with_reducible refine sq_set ?_ | with_reducible refine sq_pair ?_ | with_reducible refine sq_par ?_ | with_reducible refine sq_parN ?_ | with_reducible refine sq_new ?_ | with_reducible refine sq_item ?_ | ((with_reducible apply sq_app); rfl) | refine ⟨_, _, _, rfl, rfl, rfl, ?_⟩ | refine ⟨_, rfl, ?_⟩ | refine ⟨⟨_, rfl⟩, ?_⟩ | refine ⟨Nat.le_of_ble_eq_true rfl, ?_⟩)
    refine ⟨c, hc, _, is_ty cc.1, _, rfl, fun hb => ?_, fun _ => ok_giv ⟨⟨_, rfl, cell_str (by show 1 ≤ m; omega) (by omega) (by decide)⟩, rfl⟩⟩
    repeat (first | with_reducible refine ok_op ?_ | with_reducible refine ok_un ?_ | with_reducible refine ok_cb ?_ | with_reducible refine ok_cons ?_ | with_reducible refine ok_nil ?_ | with_reducible refine ok_giv ?_ | with_reducible refine ok_lst ?_ | with_reducible refine ok_tup ?_ | with_reducible refine ok_dic ?_ | with_reducible refine ok_bool ?_ | with_reducible refine ok_not ?_ | with_reducible refine ok_notV ?_ | with_reducible refine ok_sl ?_ | with_reducible refine ok_part ?_ | with_reducible refine ok_join ?_ | with_reducible refine ok_it ?_ | with_reducible refine ok_itA ?_ | with_reducible refine ok_call0 ?_ | with_reducible refine ok_callN ?_ | with_reducible refine ok_chain ?_ | ((with_reducible apply ok_var); rfl) | ((with_reducible apply ok_varL); rfl) | ((with_reducible apply ok_ixN); rfl) | ((with_reducible apply ok_ixM); rfl) | ((with_reducible apply ok_lenN); rfl) | ((with_reducible apply ok_lenM); rfl) | ((with_reducible apply ok_callY); rfl) | with_reducible refine dn_set ?_ | with_reducible refine dn_ret ?_ | with_reducible refine dn_retN ?_ | with_reducible refine dn_new ?_ | with_reducible refine dn_parN ?_ | with_reducible refine dn_par ?_ | with_reducible refine dn_pair ?_ | with_reducible refine dn_raise ?_ | ((with_reducible apply dn_app); rfl) | with_reducible refine dn_item ?_ | with_reducible refine sq_set ?_ | with_reducible refine sq_pair ?_ | with_reducible refine sq_par ?_ | with_reducible refine sq_parN ?_ | with_reducible refine sq_new ?_ | with_reducible refine sq_item ?_ | ((with_reducible apply sq_app); rfl) | refine ⟨_, _, _, rfl, rfl, rfl, ?_⟩ | refine ⟨_, rfl, ?_⟩ | refine ⟨⟨_, rfl⟩, ?_⟩ | refine ⟨Nat.le_of_ble_eq_true rfl, ?_⟩)
    cases c <;> first | (cases hb; done) | skip
    exact ⟨_, hc, ⟨_, rfl, cc⟩, rfl⟩
  rintro _ _ ⟨⟨x, rfl, cx⟩, rfl⟩
  obtain ⟨xl, xc⟩ := cx.chr
  repeat (first | with_reducible refine ok_op ?_ | with_reducible refine ok_un ?_ | with_reducible refine ok_cb ?_ | with_reducible refine ok_cons ?_ | with_reducible refine ok_nil ?_ | with_reducible refine ok_giv ?_ | with_reducible refine ok_lst ?_ | with_reducible refine ok_tup ?_ | with_reducible refine ok_dic ?_ | with_reducible refine ok_bool ?_ | with_reducible refine ok_not ?_ | with_reducible refine ok_notV ?_ | with_reducible refine ok_sl ?_ | with_reducible refine ok_part ?_ | with_reducible refine ok_join ?_ | with_reducible refine ok_it ?_ | with_reducible refine ok_itA ?_ | with_reducible refine ok_call0 ?_ | with_reducible refine ok_callN ?_ | with_reducible refine ok_chain ?_ | ((with_reducible apply ok_var); rfl) | ((with_reducible apply ok_varL); rfl) | ((with_reducible apply ok_ixN); rfl) | ((with_reducible apply ok_ixM); rfl) | ((with_reducible apply ok_lenN); rfl) | ((with_reducible apply ok_lenM); rfl) | ((with_reducible apply ok_callY); rfl) | with_reducible refine dn_set ?_ | with_reducible refine dn_ret ?_ | with_reducible refine dn_retN ?_ | with_reducible refine dn_new ?_ | with_reducible refine dn_parN ?_ | with_reducible refine dn_par ?_ | with_reducible refine dn_pair ?_ | with_reducible refine dn_raise ?_ | ((with_reducible apply dn_app); rfl) | with_reducible refine dn_item ?_ | with_reducible refine sq_set ?_ | with_reducible refine sq_pair ?_ | with_reducible refine sq_par ?_ | with_reducible refine sq_parN ?_ | with_reducible refine sq_new ?_ | with_reducible refine sq_item ?_ | ((with_reducible apply sq_app); rfl) | refine ⟨_, _, _, rfl, rfl, rfl, ?_⟩ | refine ⟨_, rfl, ?_⟩ | refine ⟨⟨_, rfl⟩, ?_⟩ | refine ⟨Nat.le_of_ble_eq_true rfl, ?_⟩)
  refine ⟨_, len_str (by omega), ?_⟩
  repeat (first | with_reducible refine ok_op ?_ | with_reducible refine ok_un ?_ | with_reducible refine ok_cb ?_ | with_reducible refine ok_cons ?_ | with_reducible refine ok_nil ?_ | with_reducible refine ok_giv ?_ | with_reducible refine ok_lst ?_ | with_reducible refine ok_tup ?_ | with_reducible refine ok_dic ?_ | with_reducible refine ok_bool ?_ | with_reducible refine ok_not ?_ | with_reducible refine ok_notV ?_ | with_reducible refine ok_sl ?_ | with_reducible refine ok_part ?_ | with_reducible refine ok_join ?_ | with_reducible refine ok_it ?_ | with_reducible refine ok_itA ?_ | with_reducible refine ok_call0 ?_ | with_reducible refine ok_callN ?_ | with_reducible refine ok_chain ?_ | ((with_reducible apply ok_var); rfl) | ((with_reducible apply ok_varL); rfl) | ((with_reducible apply ok_ixN); rfl) | ((with_reducible apply ok_ixM); rfl) | ((with_reducible apply ok_lenN); rfl) | ((with_reducible apply ok_lenM); rfl) | ((with_reducible apply ok_callY); rfl) | with_reducible refine dn_set ?_ | with_reducible refine dn_ret ?_ | with_reducible refine dn_retN ?_ | with_reducible refine dn_new ?_ | with_reducible refine dn_parN ?_ | with_reducible refine dn_par ?_ | with_reducible refine dn_pair ?_ | with_reducible refine dn_raise ?_ | ((with_reducible apply dn_app); rfl) | with_reducible refine dn_item ?_ | with_reducible refine sq_set ?_ | with_reducible refine sq_pair ?_ | with_reducible refine sq_par ?_ | with_reducible refine sq_parN ?_ | with_reducible refine sq_new ?_ | with_reducible refine sq_item ?_ | ((with_reducible apply sq_app); rfl) | refine ⟨_, _, _, rfl, rfl, rfl, ?_⟩ | refine ⟨_, rfl, ?_⟩ | refine ⟨⟨_, rfl⟩, ?_⟩ | refine ⟨Nat.le_of_ble_eq_true rfl, ?_⟩)
  obtain ⟨_, m3, e3, ⟨s, rfl, s0, s1⟩, p3⟩ := take_ok (A := A) (u := (x.length : Int) + 1) p2 (by omega) (by omega) (by omega)
  refine ⟨_, _, e3, ?_⟩
  have tk := take_sub (k := a.toNat) v.2
  have dr := drop_sub (k := (a + 1).toNat) v.2
  have lt : (ds.take a.toNat).length = a.toNat := by rw [List.length_take]; omega
  have le : (ds.drop (a + 1).toNat).length = ds.length - (a + 1).toNat := List.length_drop
  have put : ∀ {d : D}, Cell (m + 2) d → Vd (n + 1) (m + 2) (.tup (ds.take a.toNat ++ [d] ++ ds.drop (a + 1).toNat)) := fun {d} h =>
    vl_vd ⟨by rw [List.length_append, List.length_append, List.length_singleton]; omega, app_sub (app_sub (fun x hx => (tk x hx).mono (by omega)) fun x hx => by rw [List.mem_singleton.mp hx]; exact h) fun x hx => (dr x hx).mono (by omega)⟩ (by omega)
  refine dn_seq (dn_if ?_)
  repeat (first | with_reducible refine ok_op ?_ | with_reducible refine ok_un ?_ | with_reducible refine ok_cb ?_ | with_reducible refine ok_cons ?_ | with_reducible refine ok_nil ?_ | with_reducible refine ok_giv ?_ | with_reducible refine ok_lst ?_ | with_reducible refine ok_tup ?_ | with_reducible refine ok_dic ?_ | with_reducible refine ok_bool ?_ | with_reducible refine ok_not ?_ | with_reducible refine ok_notV ?_ | with_reducible refine ok_sl ?_ | with_reducible refine ok_part ?_ | with_reducible refine ok_join ?_ | with_reducible refine ok_it ?_ | with_reducible refine ok_itA ?_ | with_reducible refine ok_call0 ?_ | with_reducible refine ok_callN ?_ | with_reducible refine ok_chain ?_ | ((with_reducible apply ok_var); rfl) | ((with_reducible apply ok_varL); rfl) | ((with_reducible apply ok_ixN); rfl) | ((with_reducible apply ok_ixM); rfl) | ((with_reducible apply ok_lenN); rfl) | ((with_reducible apply ok_lenM); rfl) | ((with_reducible apply ok_callY); rfl) | with_reducible refine dn_set ?_ | with_reducible refine dn_ret ?_ | with_reducible refine dn_retN ?_ | with_reducible refine dn_new ?_ | with_reducible refine dn_parN ?_ | with_reducible refine dn_par ?_ | with_reducible refine dn_pair ?_ | with_reducible refine dn_raise ?_ | ((with_reducible apply dn_app); rfl) | with_reducible refine dn_item ?_ | with_reducible refine sq_set ?_ | with_reducible refine sq_pair ?_ | with_reducible refine sq_par ?_ | with_reducible refine sq_parN ?_ | with_reducible refine sq_new ?_ | with_reducible refine sq_item ?_ | ((with_reducible apply sq_app); rfl) | refine ⟨_, _, _, rfl, rfl, rfl, ?_⟩ | refine ⟨_, rfl, ?_⟩ | refine ⟨⟨_, rfl⟩, ?_⟩ | refine ⟨Nat.le_of_ble_eq_true rfl, ?_⟩)
  refine ⟨fun _ => ?_, fun _ => dn_nx ⟨fun _ => ?_, fun z => absurd rfl z⟩⟩
  · repeat (first | with_reducible refine ok_op ?_ | with_reducible refine ok_un ?_ | with_reducible refine ok_cb ?_ | with_reducible refine ok_cons ?_ | with_reducible refine ok_nil ?_ | with_reducible refine ok_giv ?_ | with_reducible refine ok_lst ?_ | with_reducible refine ok_tup ?_ | with_reducible refine ok_dic ?_ | with_reducible refine ok_bool ?_ | with_reducible refine ok_not ?_ | with_reducible refine ok_notV ?_ | with_reducible refine ok_sl ?_ | with_reducible refine ok_part ?_ | with_reducible refine ok_join ?_ | with_reducible refine ok_it ?_ | with_reducible refine ok_itA ?_ | with_reducible refine ok_call0 ?_ | with_reducible refine ok_callN ?_ | with_reducible refine ok_chain ?_ | ((with_reducible apply ok_var); rfl) | ((with_reducible apply ok_varL); rfl) | ((with_reducible apply ok_ixN); rfl) | ((with_reducible apply ok_ixM); rfl) | ((with_reducible apply ok_lenN); rfl) | ((with_reducible apply ok_lenM); rfl) | ((with_reducible apply ok_callY); rfl) | with_reducible refine dn_set ?_ | with_reducible refine dn_ret ?_ | with_reducible refine dn_retN ?_ | with_reducible refine dn_new ?_ | with_reducible refine dn_parN ?_ | with_reducible refine dn_par ?_ | with_reducible refine dn_pair ?_ | with_reducible refine dn_raise ?_ | ((with_reducible apply dn_app); rfl) | with_reducible refine dn_item ?_ | with_reducible refine sq_set ?_ | with_reducible refine sq_pair ?_ | with_reducible refine sq_par ?_ | with_reducible refine sq_parN ?_ | with_reducible refine sq_new ?_ | with_reducible refine sq_item ?_ | ((with_reducible apply sq_app); rfl) | refine ⟨_, _, _, rfl, rfl, rfl, ?_⟩ | refine ⟨_, rfl, ?_⟩ | refine ⟨⟨_, rfl⟩, ?_⟩ | refine ⟨Nat.le_of_ble_eq_true rfl, ?_⟩)
    obtain ⟨d, m4, e4, vd, p4⟩ := spoilt_ok (A := A) p3 (by omega) v hn hm
    exact ⟨_, _, e4, (fun z => nomatch z), fun _ => ⟨d, rfl, m4, rfl, vd.mono (by omega) (by omega), p4.mono (by omega)⟩⟩
  refine dn_seq (dn_if ?_)
  repeat (first | with_reducible refine ok_op ?_ | with_reducible refine ok_un ?_ | with_reducible refine ok_cb ?_ | with_reducible refine ok_cons ?_ | with_reducible refine ok_nil ?_ | with_reducible refine ok_giv ?_ | with_reducible refine ok_lst ?_ | with_reducible refine ok_tup ?_ | with_reducible refine ok_dic ?_ | with_reducible refine ok_bool ?_ | with_reducible refine ok_not ?_ | with_reducible refine ok_notV ?_ | with_reducible refine ok_sl ?_ | with_reducible refine ok_part ?_ | with_reducible refine ok_join ?_ | with_reducible refine ok_it ?_ | with_reducible refine ok_itA ?_ | with_reducible refine ok_call0 ?_ | with_reducible refine ok_callN ?_ | with_reducible refine ok_chain ?_ | ((with_reducible apply ok_var); rfl) | ((with_reducible apply ok_varL); rfl) | ((with_reducible apply ok_ixN); rfl) | ((with_reducible apply ok_ixM); rfl) | ((with_reducible apply ok_lenN); rfl) | ((with_reducible apply ok_lenM); rfl) | ((with_reducible apply ok_callY); rfl) | with_reducible refine dn_set ?_ | with_reducible refine dn_ret ?_ | with_reducible refine dn_retN ?_ | with_reducible refine dn_new ?_ | with_reducible refine dn_parN ?_ | with_reducible refine dn_par ?_ | with_reducible refine dn_pair ?_ | with_reducible refine dn_raise ?_ | ((with_reducible apply dn_app); rfl) | with_reducible refine dn_item ?_ | with_reducible refine sq_set ?_ | with_reducible refine sq_pair ?_ | with_reducible refine sq_par ?_ | with_reducible refine sq_parN ?_ | with_reducible refine sq_new ?_ | with_reducible refine sq_item ?_ | ((with_reducible apply sq_app); rfl) | refine ⟨_, _, _, rfl, rfl, rfl, ?_⟩ | refine ⟨_, rfl, ?_⟩ | refine ⟨⟨_, rfl⟩, ?_⟩ | refine ⟨Nat.le_of_ble_eq_true rfl, ?_⟩)
  refine ⟨fun _ => ?_, fun _ => dn_nx ⟨fun _ => ?_, fun z => absurd rfl z⟩⟩
  · repeat (first | with_reducible refine ok_op ?_ | with_reducible refine ok_un ?_ | with_reducible refine ok_cb ?_ | with_reducible refine ok_cons ?_ | with_reducible refine ok_nil ?_ | with_reducible refine ok_giv ?_ | with_reducible refine ok_lst ?_ | with_reducible refine ok_tup ?_ | with_reducible refine ok_dic ?_ | with_reducible refine ok_bool ?_ | with_reducible refine ok_not ?_ | with_reducible refine ok_notV ?_ | with_reducible refine ok_sl ?_ | with_reducible refine ok_part ?_ | with_reducible refine ok_join ?_ | with_reducible refine ok_it ?_ | with_reducible refine ok_itA ?_ | with_reducible refine ok_call0 ?_ | with_reducible refine ok_callN ?_ | with_reducible refine ok_chain ?_ | ((with_reducible apply ok_var); rfl) | ((with_reducible apply ok_varL); rfl) | ((with_reducible apply ok_ixN); rfl) | ((with_reducible apply ok_ixM); rfl) | ((with_reducible apply ok_lenN); rfl) | ((with_reducible apply ok_lenM); rfl) | ((with_reducible apply ok_callY); rfl) | with_reducible refine dn_set ?_ | with_reducible refine dn_ret ?_ | with_reducible refine dn_retN ?_ | with_reducible refine dn_new ?_ | with_reducible refine dn_parN ?_ | with_reducible refine dn_par ?_ | with_reducible refine dn_pair ?_ | with_reducible refine dn_raise ?_ | ((with_reducible apply dn_app); rfl) | with_reducible refine dn_item ?_ | with_reducible refine sq_set ?_ | with_reducible refine sq_pair ?_ | with_reducible refine sq_par ?_ | with_reducible refine sq_parN ?_ | with_reducible refine sq_new ?_ | with_reducible refine sq_item ?_ | ((with_reducible apply sq_app); rfl) | refine ⟨_, _, _, rfl, rfl, rfl, ?_⟩ | refine ⟨_, rfl, ?_⟩ | refine ⟨⟨_, rfl⟩, ?_⟩ | refine ⟨Nat.le_of_ble_eq_true rfl, ?_⟩)
    rw [cut_to a0]
    refine ⟨_, len_str (by omega), _, mul_s (by omega) (by omega) (by decide), ?_⟩
    repeat (first | with_reducible refine ok_op ?_ | with_reducible refine ok_un ?_ | with_reducible refine ok_cb ?_ | with_reducible refine ok_cons ?_ | with_reducible refine ok_nil ?_ | with_reducible refine ok_giv ?_ | with_reducible refine ok_lst ?_ | with_reducible refine ok_tup ?_ | with_reducible refine ok_dic ?_ | with_reducible refine ok_bool ?_ | with_reducible refine ok_not ?_ | with_reducible refine ok_notV ?_ | with_reducible refine ok_sl ?_ | with_reducible refine ok_part ?_ | with_reducible refine ok_join ?_ | with_reducible refine ok_it ?_ | with_reducible refine ok_itA ?_ | with_reducible refine ok_call0 ?_ | with_reducible refine ok_callN ?_ | with_reducible refine ok_chain ?_ | ((with_reducible apply ok_var); rfl) | ((with_reducible apply ok_varL); rfl) | ((with_reducible apply ok_ixN); rfl) | ((with_reducible apply ok_ixM); rfl) | ((with_reducible apply ok_lenN); rfl) | ((with_reducible apply ok_lenM); rfl) | ((with_reducible apply ok_callY); rfl) | with_reducible refine dn_set ?_ | with_reducible refine dn_ret ?_ | with_reducible refine dn_retN ?_ | with_reducible refine dn_new ?_ | with_reducible refine dn_parN ?_ | with_reducible refine dn_par ?_ | with_reducible refine dn_pair ?_ | with_reducible refine dn_raise ?_ | ((with_reducible apply dn_app); rfl) | with_reducible refine dn_item ?_ | with_reducible refine sq_set ?_ | with_reducible refine sq_pair ?_ | with_reducible refine sq_par ?_ | with_reducible refine sq_parN ?_ | with_reducible refine sq_new ?_ | with_reducible refine sq_item ?_ | ((with_reducible apply sq_app); rfl) | refine ⟨_, _, _, rfl, rfl, rfl, ?_⟩ | refine ⟨_, rfl, ?_⟩ | refine ⟨⟨_, rfl⟩, ?_⟩ | refine ⟨Nat.le_of_ble_eq_true rfl, ?_⟩)
    refine ⟨_, add_tt (by rw [lt]; simp; omega), ?_⟩
    repeat (first | with_reducible refine ok_op ?_ | with_reducible refine ok_un ?_ | with_reducible refine ok_cb ?_ | with_reducible refine ok_cons ?_ | with_reducible refine ok_nil ?_ | with_reducible refine ok_giv ?_ | with_reducible refine ok_lst ?_ | with_reducible refine ok_tup ?_ | with_reducible refine ok_dic ?_ | with_reducible refine ok_bool ?_ | with_reducible refine ok_not ?_ | with_reducible refine ok_notV ?_ | with_reducible refine ok_sl ?_ | with_reducible refine ok_part ?_ | with_reducible refine ok_join ?_ | with_reducible refine ok_it ?_ | with_reducible refine ok_itA ?_ | with_reducible refine ok_call0 ?_ | with_reducible refine ok_callN ?_ | with_reducible refine ok_chain ?_ | ((with_reducible apply ok_var); rfl) | ((with_reducible apply ok_varL); rfl) | ((with_reducible apply ok_ixN); rfl) | ((with_reducible apply ok_ixM); rfl) | ((with_reducible apply ok_lenN); rfl) | ((with_reducible apply ok_lenM); rfl) | ((with_reducible apply ok_callY); rfl) | with_reducible refine dn_set ?_ | with_reducible refine dn_ret ?_ | with_reducible refine dn_retN ?_ | with_reducible refine dn_new ?_ | with_reducible refine dn_parN ?_ | with_reducible refine dn_par ?_ | with_reducible refine dn_pair ?_ | with_reducible refine dn_raise ?_ | ((with_reducible apply dn_app); rfl) | with_reducible refine dn_item ?_ | with_reducible refine sq_set ?_ | with_reducible refine sq_pair ?_ | with_reducible refine sq_par ?_ | with_reducible refine sq_parN ?_ | with_reducible refine sq_new ?_ | with_reducible refine sq_item ?_ | ((with_reducible apply sq_app); rfl) | refine ⟨_, _, _, rfl, rfl, rfl, ?_⟩ | refine ⟨_, rfl, ?_⟩ | refine ⟨⟨_, rfl⟩, ?_⟩ | refine ⟨Nat.le_of_ble_eq_true rfl, ?_⟩)
    rw [cut_from (show 0 ≤ a + 1 by omega)]
    refine ⟨_, add_tt (by rw [List.length_append, lt, le]; simp; omega), (fun z => nomatch z), fun _ => ⟨_, rfl, m3, rfl, put (cell_str ?_ (by omega) (rep_chr dot_chr)), p3.mono (by omega)⟩⟩
    rw [rep_len]
    have : (("." : String) : Str).length = 1 := by decide
    rw [this]
    omega
  refine dn_seq (dn_if ?_)
  repeat (first | with_reducible refine ok_op ?_ | with_reducible refine ok_un ?_ | with_reducible refine ok_cb ?_ | with_reducible refine ok_cons ?_ | with_reducible refine ok_nil ?_ | with_reducible refine ok_giv ?_ | with_reducible refine ok_lst ?_ | with_reducible refine ok_tup ?_ | with_reducible refine ok_dic ?_ | with_reducible refine ok_bool ?_ | with_reducible refine ok_not ?_ | with_reducible refine ok_notV ?_ | with_reducible refine ok_sl ?_ | with_reducible refine ok_part ?_ | with_reducible refine ok_join ?_ | with_reducible refine ok_it ?_ | with_reducible refine ok_itA ?_ | with_reducible refine ok_call0 ?_ | with_reducible refine ok_callN ?_ | with_reducible refine ok_chain ?_ | ((with_reducible apply ok_var); rfl) | ((with_reducible apply ok_varL); rfl) | ((with_reducible apply ok_ixN); rfl) | ((with_reducible apply ok_ixM); rfl) | ((with_reducible apply ok_lenN); rfl) | ((with_reducible apply ok_lenM); rfl) | ((with_reducible apply ok_callY); rfl) | with_reducible refine dn_set ?_ | with_reducible refine dn_ret ?_ | with_reducible refine dn_retN ?_ | with_reducible refine dn_new ?_ | with_reducible refine dn_parN ?_ | with_reducible refine dn_par ?_ | with_reducible refine dn_pair ?_ | with_reducible refine dn_raise ?_ | ((with_reducible apply dn_app); rfl) | with_reducible refine dn_item ?_ | with_reducible refine sq_set ?_ | with_reducible refine sq_pair ?_ | with_reducible refine sq_par ?_ | with_reducible refine sq_parN ?_ | with_reducible refine sq_new ?_ | with_reducible refine sq_item ?_ | ((with_reducible apply sq_app); rfl) | refine ⟨_, _, _, rfl, rfl, rfl, ?_⟩ | refine ⟨_, rfl, ?_⟩ | refine ⟨⟨_, rfl⟩, ?_⟩ | refine ⟨Nat.le_of_ble_eq_true rfl, ?_⟩)
  refine ⟨fun _ => ?_, fun _ => dn_nx ⟨fun _ => ?_, fun z => absurd rfl z⟩⟩
  · repeat (first | with_reducible refine ok_op ?_ | with_reducible refine ok_un ?_ | with_reducible refine ok_cb ?_ | with_reducible refine ok_cons ?_ | with_reducible refine ok_nil ?_ | with_reducible refine ok_giv ?_ | with_reducible refine ok_lst ?_ | with_reducible refine ok_tup ?_ | with_reducible refine ok_dic ?_ | with_reducible refine ok_bool ?_ | with_reducible refine ok_not ?_ | with_reducible refine ok_notV ?_ | with_reducible refine ok_sl ?_ | with_reducible refine ok_part ?_ | with_reducible refine ok_join ?_ | with_reducible refine ok_it ?_ | with_reducible refine ok_itA ?_ | with_reducible refine ok_call0 ?_ | with_reducible refine ok_callN ?_ | with_reducible refine ok_chain ?_ | ((with_reducible apply ok_var); rfl) | ((with_reducible apply ok_varL); rfl) | ((with_reducible apply ok_ixN); rfl) | ((with_reducible apply ok_ixM); rfl) | ((with_reducible apply ok_lenN); rfl) | ((with_reducible apply ok_lenM); rfl) | ((with_reducible apply ok_callY); rfl) | with_reducible refine dn_set ?_ | with_reducible refine dn_ret ?_ | with_reducible refine dn_retN ?_ | with_reducible refine dn_new ?_ | with_reducible refine dn_parN ?_ | with_reducible refine dn_par ?_ | with_reducible refine dn_pair ?_ | with_reducible refine dn_raise ?_ | ((with_reducible apply dn_app); rfl) | with_reducible refine dn_item ?_ | with_reducible refine sq_set ?_ | with_reducible refine sq_pair ?_ | with_reducible refine sq_par ?_ | with_reducible refine sq_parN ?_ | with_reducible refine sq_new ?_ | with_reducible refine sq_item ?_ | ((with_reducible apply sq_app); rfl) | refine ⟨_, _, _, rfl, rfl, rfl, ?_⟩ | refine ⟨_, rfl, ?_⟩ | refine ⟨⟨_, rfl⟩, ?_⟩ | refine ⟨Nat.le_of_ble_eq_true rfl, ?_⟩)
    refine ok_lc (f2 s) ?_
    repeat (first | with_reducible refine ok_op ?_ | with_reducible refine ok_un ?_ | with_reducible refine ok_cb ?_ | with_reducible refine ok_cons ?_ | with_reducible refine ok_nil ?_ | with_reducible refine ok_giv ?_ | with_reducible refine ok_lst ?_ | with_reducible refine ok_tup ?_ | with_reducible refine ok_dic ?_ | with_reducible refine ok_bool ?_ | with_reducible refine ok_not ?_ | with_reducible refine ok_notV ?_ | with_reducible refine ok_sl ?_ | with_reducible refine ok_part ?_ | with_reducible refine ok_join ?_ | with_reducible refine ok_it ?_ | with_reducible refine ok_itA ?_ | with_reducible refine ok_call0 ?_ | with_reducible refine ok_callN ?_ | with_reducible refine ok_chain ?_ | ((with_reducible apply ok_var); rfl) | ((with_reducible apply ok_varL); rfl) | ((with_reducible apply ok_ixN); rfl) | ((with_reducible apply ok_ixM); rfl) | ((with_reducible apply ok_lenN); rfl) | ((with_reducible apply ok_lenM); rfl) | ((with_reducible apply ok_callY); rfl) | with_reducible refine dn_set ?_ | with_reducible refine dn_ret ?_ | with_reducible refine dn_retN ?_ | with_reducible refine dn_new ?_ | with_reducible refine dn_parN ?_ | with_reducible refine dn_par ?_ | with_reducible refine dn_pair ?_ | with_reducible refine dn_raise ?_ | ((with_reducible apply dn_app); rfl) | with_reducible refine dn_item ?_ | with_reducible refine sq_set ?_ | with_reducible refine sq_pair ?_ | with_reducible refine sq_par ?_ | with_reducible refine sq_parN ?_ | with_reducible refine sq_new ?_ | with_reducible refine sq_item ?_ | ((with_reducible apply sq_app); rfl) | refine ⟨_, _, _, rfl, rfl, rfl, ?_⟩ | refine ⟨_, rfl, ?_⟩ | refine ⟨⟨_, rfl⟩, ?_⟩ | refine ⟨Nat.le_of_ble_eq_true rfl, ?_⟩)
    refine ⟨by omega, fun d hd => ⟨_, rfl, ok_if ?_⟩, ?_⟩
    · have cd := v.2 d hd
      repeat (first | with_reducible refine ok_op ?_ | with_reducible refine ok_un ?_ | with_reducible refine ok_cb ?_ | with_reducible refine ok_cons ?_ | with_reducible refine ok_nil ?_ | with_reducible refine ok_giv ?_ | with_reducible refine ok_lst ?_ | with_reducible refine ok_tup ?_ | with_reducible refine ok_dic ?_ | with_reducible refine ok_bool ?_ | with_reducible refine ok_not ?_ | with_reducible refine ok_notV ?_ | with_reducible refine ok_sl ?_ | with_reducible refine ok_part ?_ | with_reducible refine ok_join ?_ | with_reducible refine ok_it ?_ | with_reducible refine ok_itA ?_ | with_reducible refine ok_call0 ?_ | with_reducible refine ok_callN ?_ | with_reducible refine ok_chain ?_ | ((with_reducible apply ok_var); rfl) | ((with_reducible apply ok_varL); rfl) | ((with_reducible apply ok_ixN); rfl) | ((with_reducible apply ok_ixM); rfl) | ((with_reducible apply ok_lenN); rfl) | ((with_reducible apply ok_lenM); rfl) | ((with_reducible apply ok_callY); rfl) | with_reducible refine dn_set ?_ | with_reducible refine dn_ret ?_ | with_reducible refine dn_retN ?_ | with_reducible refine dn_new ?_ | with_reducible refine dn_parN ?_ | with_reducible refine dn_par ?_ | with_reducible refine dn_pair ?_ | with_reducible refine dn_raise ?_ | ((with_reducible apply dn_app); rfl) | with_reducible refine dn_item ?_ | with_reducible refine sq_set ?_ | with_reducible refine sq_pair ?_ | with_reducible refine sq_par ?_ | with_reducible refine sq_parN ?_ | with_reducible refine sq_new ?_ | with_reducible refine sq_item ?_ | ((with_reducible apply sq_app); rfl) | refine ⟨_, _, _, rfl, rfl, rfl, ?_⟩ | refine ⟨_, rfl, ?_⟩ | refine ⟨⟨_, rfl⟩, ?_⟩ | refine ⟨Nat.le_of_ble_eq_true rfl, ?_⟩)
      refine ⟨_, is_ty cd.1, _, rfl, fun hb => ?_, fun hb => ?_⟩
      · cases d <;> first | (cases hb; done) | skip
        have l := cd.chr.1
        repeat (first | with_reducible refine ok_op ?_ | with_reducible refine ok_un ?_ | with_reducible refine ok_cb ?_ | with_reducible refine ok_cons ?_ | with_reducible refine ok_nil ?_ | with_reducible refine ok_giv ?_ | with_reducible refine ok_lst ?_ | with_reducible refine ok_tup ?_ | with_reducible refine ok_dic ?_ | with_reducible refine ok_bool ?_ | with_reducible refine ok_not ?_ | with_reducible refine ok_notV ?_ | with_reducible refine ok_sl ?_ | with_reducible refine ok_part ?_ | with_reducible refine ok_join ?_ | with_reducible refine ok_it ?_ | with_reducible refine ok_itA ?_ | with_reducible refine ok_call0 ?_ | with_reducible refine ok_callN ?_ | with_reducible refine ok_chain ?_ | ((with_reducible apply ok_var); rfl) | ((with_reducible apply ok_varL); rfl) | ((with_reducible apply ok_ixN); rfl) | ((with_reducible apply ok_ixM); rfl) | ((with_reducible apply ok_lenN); rfl) | ((with_reducible apply ok_lenM); rfl) | ((with_reducible apply ok_callY); rfl) | with_reducible refine dn_set ?_ | with_reducible refine dn_ret ?_ | with_reducible refine dn_retN ?_ | with_reducible refine dn_new ?_ | with_reducible refine dn_parN ?_ | with_reducible refine dn_par ?_ | with_reducible refine dn_pair ?_ | with_reducible refine dn_raise ?_ | ((with_reducible apply dn_app); rfl) | with_reducible refine dn_item ?_ | with_reducible refine sq_set ?_ | with_reducible refine sq_pair ?_ | with_reducible refine sq_par ?_ | with_reducible refine sq_parN ?_ | with_reducible refine sq_new ?_ | with_reducible refine sq_item ?_ | ((with_reducible apply sq_app); rfl) | refine ⟨_, _, _, rfl, rfl, rfl, ?_⟩ | refine ⟨_, rfl, ?_⟩ | refine ⟨⟨_, rfl⟩, ?_⟩ | refine ⟨Nat.le_of_ble_eq_true rfl, ?_⟩)
        refine ⟨_, sl_to' (by omega), ?_⟩
        repeat (first | with_reducible refine ok_op ?_ | with_reducible refine ok_un ?_ | with_reducible refine ok_cb ?_ | with_reducible refine ok_cons ?_ | with_reducible refine ok_nil ?_ | with_reducible refine ok_giv ?_ | with_reducible refine ok_lst ?_ | with_reducible refine ok_tup ?_ | with_reducible refine ok_dic ?_ | with_reducible refine ok_bool ?_ | with_reducible refine ok_not ?_ | with_reducible refine ok_notV ?_ | with_reducible refine ok_sl ?_ | with_reducible refine ok_part ?_ | with_reducible refine ok_join ?_ | with_reducible refine ok_it ?_ | with_reducible refine ok_itA ?_ | with_reducible refine ok_call0 ?_ | with_reducible refine ok_callN ?_ | with_reducible refine ok_chain ?_ | ((with_reducible apply ok_var); rfl) | ((with_reducible apply ok_varL); rfl) | ((with_reducible apply ok_ixN); rfl) | ((with_reducible apply ok_ixM); rfl) | ((with_reducible apply ok_lenN); rfl) | ((with_reducible apply ok_lenM); rfl) | ((with_reducible apply ok_callY); rfl) | with_reducible refine dn_set ?_ | with_reducible refine dn_ret ?_ | with_reducible refine dn_retN ?_ | with_reducible refine dn_new ?_ | with_reducible refine dn_parN ?_ | with_reducible refine dn_par ?_ | with_reducible refine dn_pair ?_ | with_reducible refine dn_raise ?_ | ((with_reducible apply dn_app); rfl) | with_reducible refine dn_item ?_ | with_reducible refine sq_set ?_ | with_reducible refine sq_pair ?_ | with_reducible refine sq_par ?_ | with_reducible refine sq_parN ?_ | with_reducible refine sq_new ?_ | with_reducible refine sq_item ?_ | ((with_reducible apply sq_app); rfl) | refine ⟨_, _, _, rfl, rfl, rfl, ?_⟩ | refine ⟨_, rfl, ?_⟩ | refine ⟨⟨_, rfl⟩, ?_⟩ | refine ⟨Nat.le_of_ble_eq_true rfl, ?_⟩)
        have q1 := (cut_small cd hm2 s0).1
        have q2 := (cut_small cd hm2 (s := s + 1) (by omega)).2
        exact ⟨_, sl_from' (by omega), _, add_ss (by omega), rfl, rfl⟩
      · repeat (first | with_reducible refine ok_op ?_ | with_reducible refine ok_un ?_ | with_reducible refine ok_cb ?_ | with_reducible refine ok_cons ?_ | with_reducible refine ok_nil ?_ | with_reducible refine ok_giv ?_ | with_reducible refine ok_lst ?_ | with_reducible refine ok_tup ?_ | with_reducible refine ok_dic ?_ | with_reducible refine ok_bool ?_ | with_reducible refine ok_not ?_ | with_reducible refine ok_notV ?_ | with_reducible refine ok_sl ?_ | with_reducible refine ok_part ?_ | with_reducible refine ok_join ?_ | with_reducible refine ok_it ?_ | with_reducible refine ok_itA ?_ | with_reducible refine ok_call0 ?_ | with_reducible refine ok_callN ?_ | with_reducible refine ok_chain ?_ | ((with_reducible apply ok_var); rfl) | ((with_reducible apply ok_varL); rfl) | ((with_reducible apply ok_ixN); rfl) | ((with_reducible apply ok_ixM); rfl) | ((with_reducible apply ok_lenN); rfl) | ((with_reducible apply ok_lenM); rfl) | ((with_reducible apply ok_callY); rfl) | with_reducible refine dn_set ?_ | with_reducible refine dn_ret ?_ | with_reducible refine dn_retN ?_ | with_reducible refine dn_new ?_ | with_reducible refine dn_parN ?_ | with_reducible refine dn_par ?_ | with_reducible refine dn_pair ?_ | with_reducible refine dn_raise ?_ | ((with_reducible apply dn_app); rfl) | with_reducible refine dn_item ?_ | with_reducible refine sq_set ?_ | with_reducible refine sq_pair ?_ | with_reducible refine sq_par ?_ | with_reducible refine sq_parN ?_ | with_reducible refine sq_new ?_ | with_reducible refine sq_item ?_ | ((with_reducible apply sq_app); rfl) | refine ⟨_, _, _, rfl, rfl, rfl, ?_⟩ | refine ⟨_, rfl, ?_⟩ | refine ⟨⟨_, rfl⟩, ?_⟩ | refine ⟨Nat.le_of_ble_eq_true rfl, ?_⟩)
        refine ⟨?_, rfl⟩
        cases d <;> first | rfl | cases hb
    · repeat (first | with_reducible refine ok_op ?_ | with_reducible refine ok_un ?_ | with_reducible refine ok_cb ?_ | with_reducible refine ok_cons ?_ | with_reducible refine ok_nil ?_ | with_reducible refine ok_giv ?_ | with_reducible refine ok_lst ?_ | with_reducible refine ok_tup ?_ | with_reducible refine ok_dic ?_ | with_reducible refine ok_bool ?_ | with_reducible refine ok_not ?_ | with_reducible refine ok_notV ?_ | with_reducible refine ok_sl ?_ | with_reducible refine ok_part ?_ | with_reducible refine ok_join ?_ | with_reducible refine ok_it ?_ | with_reducible refine ok_itA ?_ | with_reducible refine ok_call0 ?_ | with_reducible refine ok_callN ?_ | with_reducible refine ok_chain ?_ | ((with_reducible apply ok_var); rfl) | ((with_reducible apply ok_varL); rfl) | ((with_reducible apply ok_ixN); rfl) | ((with_reducible apply ok_ixM); rfl) | ((with_reducible apply ok_lenN); rfl) | ((with_reducible apply ok_lenM); rfl) | ((with_reducible apply ok_callY); rfl) | with_reducible refine dn_set ?_ | with_reducible refine dn_ret ?_ | with_reducible refine dn_retN ?_ | with_reducible refine dn_new ?_ | with_reducible refine dn_parN ?_ | with_reducible refine dn_par ?_ | with_reducible refine dn_pair ?_ | with_reducible refine dn_raise ?_ | ((with_reducible apply dn_app); rfl) | with_reducible refine dn_item ?_ | with_reducible refine sq_set ?_ | with_reducible refine sq_pair ?_ | with_reducible refine sq_par ?_ | with_reducible refine sq_parN ?_ | with_reducible refine sq_new ?_ | with_reducible refine sq_item ?_ | ((with_reducible apply sq_app); rfl) | refine ⟨_, _, _, rfl, rfl, rfl, ?_⟩ | refine ⟨_, rfl, ?_⟩ | refine ⟨⟨_, rfl⟩, ?_⟩ | refine ⟨Nat.le_of_ble_eq_true rfl, ?_⟩)
      exact ⟨(fun z => nomatch z), fun _ => ⟨_, rfl, m3, rfl, vl_vd ⟨by rw [List.length_map]; omega, fun d hd => by
        obtain ⟨y, hy, rfl⟩ := List.mem_map.mp hd
        exact f2_cell s0 hm2 (v.2 y hy)⟩ (by omega), p3.mono (by omega)⟩⟩
  refine dn_seq (dn_if ?_)
  repeat (first | with_reducible refine ok_op ?_ | with_reducible refine ok_un ?_ | with_reducible refine ok_cb ?_ | with_reducible refine ok_cons ?_ | with_reducible refine ok_nil ?_ | with_reducible refine ok_giv ?_ | with_reducible refine ok_lst ?_ | with_reducible refine ok_tup ?_ | with_reducible refine ok_dic ?_ | with_reducible refine ok_bool ?_ | with_reducible refine ok_not ?_ | with_reducible refine ok_notV ?_ | with_reducible refine ok_sl ?_ | with_reducible refine ok_part ?_ | with_reducible refine ok_join ?_ | with_reducible refine ok_it ?_ | with_reducible refine ok_itA ?_ | with_reducible refine ok_call0 ?_ | with_reducible refine ok_callN ?_ | with_reducible refine ok_chain ?_ | ((with_reducible apply ok_var); rfl) | ((with_reducible apply ok_varL); rfl) | ((with_reducible apply ok_ixN); rfl) | ((with_reducible apply ok_ixM); rfl) | ((with_reducible apply ok_lenN); rfl) | ((with_reducible apply ok_lenM); rfl) | ((with_reducible apply ok_callY); rfl) | with_reducible refine dn_set ?_ | with_reducible refine dn_ret ?_ | with_reducible refine dn_retN ?_ | with_reducible refine dn_new ?_ | with_reducible refine dn_parN ?_ | with_reducible refine dn_par ?_ | with_reducible refine dn_pair ?_ | with_reducible refine dn_raise ?_ | ((with_reducible apply dn_app); rfl) | with_reducible refine dn_item ?_ | with_reducible refine sq_set ?_ | with_reducible refine sq_pair ?_ | with_reducible refine sq_par ?_ | with_reducible refine sq_parN ?_ | with_reducible refine sq_new ?_ | with_reducible refine sq_item ?_ | ((with_reducible apply sq_app); rfl) | refine ⟨_, _, _, rfl, rfl, rfl, ?_⟩ | refine ⟨_, rfl, ?_⟩ | refine ⟨⟨_, rfl⟩, ?_⟩ | refine ⟨Nat.le_of_ble_eq_true rfl, ?_⟩)
  refine ⟨fun _ => ?_, fun _ => dn_nx ⟨fun _ => ?_, fun z => absurd rfl z⟩⟩
  · repeat (first | with_reducible refine ok_op ?_ | with_reducible refine ok_un ?_ | with_reducible refine ok_cb ?_ | with_reducible refine ok_cons ?_ | with_reducible refine ok_nil ?_ | with_reducible refine ok_giv ?_ | with_reducible refine ok_lst ?_ | with_reducible refine ok_tup ?_ | with_reducible refine ok_dic ?_ | with_reducible refine ok_bool ?_ | with_reducible refine ok_not ?_ | with_reducible refine ok_notV ?_ | with_reducible refine ok_sl ?_ | with_reducible refine ok_part ?_ | with_reducible refine ok_join ?_ | with_reducible refine ok_it ?_ | with_reducible refine ok_itA ?_ | with_reducible refine ok_call0 ?_ | with_reducible refine ok_callN ?_ | with_reducible refine ok_chain ?_ | ((with_reducible apply ok_var); rfl) | ((with_reducible apply ok_varL); rfl) | ((with_reducible apply ok_ixN); rfl) | ((with_reducible apply ok_ixM); rfl) | ((with_reducible apply ok_lenN); rfl) | ((with_reducible apply ok_lenM); rfl) | ((with_reducible apply ok_callY); rfl) | with_reducible refine dn_set ?_ | with_reducible refine dn_ret ?_ | with_reducible refine dn_retN ?_ | with_reducible refine dn_new ?_ | with_reducible refine dn_parN ?_ | with_reducible refine dn_par ?_ | with_reducible refine dn_pair ?_ | with_reducible refine dn_raise ?_ | ((with_reducible apply dn_app); rfl) | with_reducible refine dn_item ?_ | with_reducible refine sq_set ?_ | with_reducible refine sq_pair ?_ | with_reducible refine sq_par ?_ | with_reducible refine sq_parN ?_ | with_reducible refine sq_new ?_ | with_reducible refine sq_item ?_ | ((with_reducible apply sq_app); rfl) | refine ⟨_, _, _, rfl, rfl, rfl, ?_⟩ | refine ⟨_, rfl, ?_⟩ | refine ⟨⟨_, rfl⟩, ?_⟩ | refine ⟨Nat.le_of_ble_eq_true rfl, ?_⟩)
    refine ok_lc (f3 s) ?_
    repeat (first | with_reducible refine ok_op ?_ | with_reducible refine ok_un ?_ | with_reducible refine ok_cb ?_ | with_reducible refine ok_cons ?_ | with_reducible refine ok_nil ?_ | with_reducible refine ok_giv ?_ | with_reducible refine ok_lst ?_ | with_reducible refine ok_tup ?_ | with_reducible refine ok_dic ?_ | with_reducible refine ok_bool ?_ | with_reducible refine ok_not ?_ | with_reducible refine ok_notV ?_ | with_reducible refine ok_sl ?_ | with_reducible refine ok_part ?_ | with_reducible refine ok_join ?_ | with_reducible refine ok_it ?_ | with_reducible refine ok_itA ?_ | with_reducible refine ok_call0 ?_ | with_reducible refine ok_callN ?_ | with_reducible refine ok_chain ?_ | ((with_reducible apply ok_var); rfl) | ((with_reducible apply ok_varL); rfl) | ((with_reducible apply ok_ixN); rfl) | ((with_reducible apply ok_ixM); rfl) | ((with_reducible apply ok_lenN); rfl) | ((with_reducible apply ok_lenM); rfl) | ((with_reducible apply ok_callY); rfl) | with_reducible refine dn_set ?_ | with_reducible refine dn_ret ?_ | with_reducible refine dn_retN ?_ | with_reducible refine dn_new ?_ | with_reducible refine dn_parN ?_ | with_reducible refine dn_par ?_ | with_reducible refine dn_pair ?_ | with_reducible refine dn_raise ?_ | ((with_reducible apply dn_app); rfl) | with_reducible refine dn_item ?_ | with_reducible refine sq_set ?_ | with_reducible refine sq_pair ?_ | with_reducible refine sq_par ?_ | with_reducible refine sq_parN ?_ | with_reducible refine sq_new ?_ | with_reducible refine sq_item ?_ | ((with_reducible apply sq_app); rfl) | refine ⟨_, _, _, rfl, rfl, rfl, ?_⟩ | refine ⟨_, rfl, ?_⟩ | refine ⟨⟨_, rfl⟩, ?_⟩ | refine ⟨Nat.le_of_ble_eq_true rfl, ?_⟩)
    refine ⟨by omega, fun d hd => ⟨_, rfl, ok_if ?_⟩, ?_⟩
    · have cd := v.2 d hd
      repeat (first | with_reducible refine ok_op ?_ | with_reducible refine ok_un ?_ | with_reducible refine ok_cb ?_ | with_reducible refine ok_cons ?_ | with_reducible refine ok_nil ?_ | with_reducible refine ok_giv ?_ | with_reducible refine ok_lst ?_ | with_reducible refine ok_tup ?_ | with_reducible refine ok_dic ?_ | with_reducible refine ok_bool ?_ | with_reducible refine ok_not ?_ | with_reducible refine ok_notV ?_ | with_reducible refine ok_sl ?_ | with_reducible refine ok_part ?_ | with_reducible refine ok_join ?_ | with_reducible refine ok_it ?_ | with_reducible refine ok_itA ?_ | with_reducible refine ok_call0 ?_ | with_reducible refine ok_callN ?_ | with_reducible refine ok_chain ?_ | ((with_reducible apply ok_var); rfl) | ((with_reducible apply ok_varL); rfl) | ((with_reducible apply ok_ixN); rfl) | ((with_reducible apply ok_ixM); rfl) | ((with_reducible apply ok_lenN); rfl) | ((with_reducible apply ok_lenM); rfl) | ((with_reducible apply ok_callY); rfl) | with_reducible refine dn_set ?_ | with_reducible refine dn_ret ?_ | with_reducible refine dn_retN ?_ | with_reducible refine dn_new ?_ | with_reducible refine dn_parN ?_ | with_reducible refine dn_par ?_ | with_reducible refine dn_pair ?_ | with_reducible refine dn_raise ?_ | ((with_reducible apply dn_app); rfl) | with_reducible refine dn_item ?_ | with_reducible refine sq_set ?_ | with_reducible refine sq_pair ?_ | with_reducible refine sq_par ?_ | with_reducible refine sq_parN ?_ | with_reducible refine sq_new ?_ | with_reducible refine sq_item ?_ | ((with_reducible apply sq_app); rfl) | refine ⟨_, _, _, rfl, rfl, rfl, ?_⟩ | refine ⟨_, rfl, ?_⟩ | refine ⟨⟨_, rfl⟩, ?_⟩ | refine ⟨Nat.le_of_ble_eq_true rfl, ?_⟩)
      refine ⟨_, is_ty cd.1, _, rfl, fun hb => ?_, fun hb => ?_⟩
      · cases d <;> first | (cases hb; done) | skip
        have l := cd.chr.1
        have q1 := (cut_small cd hm2 s0).1
        have q2 := (cut_small cd hm2 (s := s + 1) (by omega)).2
        have q3 : (("." : String) : Str).length = 1 := by decide
        repeat (first | with_reducible refine ok_op ?_ | with_reducible refine ok_un ?_ | with_reducible refine ok_cb ?_ | with_reducible refine ok_cons ?_ | with_reducible refine ok_nil ?_ | with_reducible refine ok_giv ?_ | with_reducible refine ok_lst ?_ | with_reducible refine ok_tup ?_ | with_reducible refine ok_dic ?_ | with_reducible refine ok_bool ?_ | with_reducible refine ok_not ?_ | with_reducible refine ok_notV ?_ | with_reducible refine ok_sl ?_ | with_reducible refine ok_part ?_ | with_reducible refine ok_join ?_ | with_reducible refine ok_it ?_ | with_reducible refine ok_itA ?_ | with_reducible refine ok_call0 ?_ | with_reducible refine ok_callN ?_ | with_reducible refine ok_chain ?_ | ((with_reducible apply ok_var); rfl) | ((with_reducible apply ok_varL); rfl) | ((with_reducible apply ok_ixN); rfl) | ((with_reducible apply ok_ixM); rfl) | ((with_reducible apply ok_lenN); rfl) | ((with_reducible apply ok_lenM); rfl) | ((with_reducible apply ok_callY); rfl) | with_reducible refine dn_set ?_ | with_reducible refine dn_ret ?_ | with_reducible refine dn_retN ?_ | with_reducible refine dn_new ?_ | with_reducible refine dn_parN ?_ | with_reducible refine dn_par ?_ | with_reducible refine dn_pair ?_ | with_reducible refine dn_raise ?_ | ((with_reducible apply dn_app); rfl) | with_reducible refine dn_item ?_ | with_reducible refine sq_set ?_ | with_reducible refine sq_pair ?_ | with_reducible refine sq_par ?_ | with_reducible refine sq_parN ?_ | with_reducible refine sq_new ?_ | with_reducible refine sq_item ?_ | ((with_reducible apply sq_app); rfl) | refine ⟨_, _, _, rfl, rfl, rfl, ?_⟩ | refine ⟨_, rfl, ?_⟩ | refine ⟨⟨_, rfl⟩, ?_⟩ | refine ⟨Nat.le_of_ble_eq_true rfl, ?_⟩)
        refine ⟨_, sl_to' (by omega), ?_⟩
        repeat (first | with_reducible refine ok_op ?_ | with_reducible refine ok_un ?_ | with_reducible refine ok_cb ?_ | with_reducible refine ok_cons ?_ | with_reducible refine ok_nil ?_ | with_reducible refine ok_giv ?_ | with_reducible refine ok_lst ?_ | with_reducible refine ok_tup ?_ | with_reducible refine ok_dic ?_ | with_reducible refine ok_bool ?_ | with_reducible refine ok_not ?_ | with_reducible refine ok_notV ?_ | with_reducible refine ok_sl ?_ | with_reducible refine ok_part ?_ | with_reducible refine ok_join ?_ | with_reducible refine ok_it ?_ | with_reducible refine ok_itA ?_ | with_reducible refine ok_call0 ?_ | with_reducible refine ok_callN ?_ | with_reducible refine ok_chain ?_ | ((with_reducible apply ok_var); rfl) | ((with_reducible apply ok_varL); rfl) | ((with_reducible apply ok_ixN); rfl) | ((with_reducible apply ok_ixM); rfl) | ((with_reducible apply ok_lenN); rfl) | ((with_reducible apply ok_lenM); rfl) | ((with_reducible apply ok_callY); rfl) | with_reducible refine dn_set ?_ | with_reducible refine dn_ret ?_ | with_reducible refine dn_retN ?_ | with_reducible refine dn_new ?_ | with_reducible refine dn_parN ?_ | with_reducible refine dn_par ?_ | with_reducible refine dn_pair ?_ | with_reducible refine dn_raise ?_ | ((with_reducible apply dn_app); rfl) | with_reducible refine dn_item ?_ | with_reducible refine sq_set ?_ | with_reducible refine sq_pair ?_ | with_reducible refine sq_par ?_ | with_reducible refine sq_parN ?_ | with_reducible refine sq_new ?_ | with_reducible refine sq_item ?_ | ((with_reducible apply sq_app); rfl) | refine ⟨_, _, _, rfl, rfl, rfl, ?_⟩ | refine ⟨_, rfl, ?_⟩ | refine ⟨⟨_, rfl⟩, ?_⟩ | refine ⟨Nat.le_of_ble_eq_true rfl, ?_⟩)
        refine ⟨_, add_ss (by omega), ?_⟩
        repeat (first | with_reducible refine ok_op ?_ | with_reducible refine ok_un ?_ | with_reducible refine ok_cb ?_ | with_reducible refine ok_cons ?_ | with_reducible refine ok_nil ?_ | with_reducible refine ok_giv ?_ | with_reducible refine ok_lst ?_ | with_reducible refine ok_tup ?_ | with_reducible refine ok_dic ?_ | with_reducible refine ok_bool ?_ | with_reducible refine ok_not ?_ | with_reducible refine ok_notV ?_ | with_reducible refine ok_sl ?_ | with_reducible refine ok_part ?_ | with_reducible refine ok_join ?_ | with_reducible refine ok_it ?_ | with_reducible refine ok_itA ?_ | with_reducible refine ok_call0 ?_ | with_reducible refine ok_callN ?_ | with_reducible refine ok_chain ?_ | ((with_reducible apply ok_var); rfl) | ((with_reducible apply ok_varL); rfl) | ((with_reducible apply ok_ixN); rfl) | ((with_reducible apply ok_ixM); rfl) | ((with_reducible apply ok_lenN); rfl) | ((with_reducible apply ok_lenM); rfl) | ((with_reducible apply ok_callY); rfl) | with_reducible refine dn_set ?_ | with_reducible refine dn_ret ?_ | with_reducible refine dn_retN ?_ | with_reducible refine dn_new ?_ | with_reducible refine dn_parN ?_ | with_reducible refine dn_par ?_ | with_reducible refine dn_pair ?_ | with_reducible refine dn_raise ?_ | ((with_reducible apply dn_app); rfl) | with_reducible refine dn_item ?_ | with_reducible refine sq_set ?_ | with_reducible refine sq_pair ?_ | with_reducible refine sq_par ?_ | with_reducible refine sq_parN ?_ | with_reducible refine sq_new ?_ | with_reducible refine sq_item ?_ | ((with_reducible apply sq_app); rfl) | refine ⟨_, _, _, rfl, rfl, rfl, ?_⟩ | refine ⟨_, rfl, ?_⟩ | refine ⟨⟨_, rfl⟩, ?_⟩ | refine ⟨Nat.le_of_ble_eq_true rfl, ?_⟩)
        exact ⟨_, sl_from' (by omega), _, add_ss (by rw [app_len]; omega), rfl, rfl⟩
      · repeat (first | with_reducible refine ok_op ?_ | with_reducible refine ok_un ?_ | with_reducible refine ok_cb ?_ | with_reducible refine ok_cons ?_ | with_reducible refine ok_nil ?_ | with_reducible refine ok_giv ?_ | with_reducible refine ok_lst ?_ | with_reducible refine ok_tup ?_ | with_reducible refine ok_dic ?_ | with_reducible refine ok_bool ?_ | with_reducible refine ok_not ?_ | with_reducible refine ok_notV ?_ | with_reducible refine ok_sl ?_ | with_reducible refine ok_part ?_ | with_reducible refine ok_join ?_ | with_reducible refine ok_it ?_ | with_reducible refine ok_itA ?_ | with_reducible refine ok_call0 ?_ | with_reducible refine ok_callN ?_ | with_reducible refine ok_chain ?_ | ((with_reducible apply ok_var); rfl) | ((with_reducible apply ok_varL); rfl) | ((with_reducible apply ok_ixN); rfl) | ((with_reducible apply ok_ixM); rfl) | ((with_reducible apply ok_lenN); rfl) | ((with_reducible apply ok_lenM); rfl) | ((with_reducible apply ok_callY); rfl) | with_reducible refine dn_set ?_ | with_reducible refine dn_ret ?_ | with_reducible refine dn_retN ?_ | with_reducible refine dn_new ?_ | with_reducible refine dn_parN ?_ | with_reducible refine dn_par ?_ | with_reducible refine dn_pair ?_ | with_reducible refine dn_raise ?_ | ((with_reducible apply dn_app); rfl) | with_reducible refine dn_item ?_ | with_reducible refine sq_set ?_ | with_reducible refine sq_pair ?_ | with_reducible refine sq_par ?_ | with_reducible refine sq_parN ?_ | with_reducible refine sq_new ?_ | with_reducible refine sq_item ?_ | ((with_reducible apply sq_app); rfl) | refine ⟨_, _, _, rfl, rfl, rfl, ?_⟩ | refine ⟨_, rfl, ?_⟩ | refine ⟨⟨_, rfl⟩, ?_⟩ | refine ⟨Nat.le_of_ble_eq_true rfl, ?_⟩)
        refine ⟨?_, rfl⟩
        cases d <;> first | rfl | cases hb
    · repeat (first | with_reducible refine ok_op ?_ | with_reducible refine ok_un ?_ | with_reducible refine ok_cb ?_ | with_reducible refine ok_cons ?_ | with_reducible refine ok_nil ?_ | with_reducible refine ok_giv ?_ | with_reducible refine ok_lst ?_ | with_reducible refine ok_tup ?_ | with_reducible refine ok_dic ?_ | with_reducible refine ok_bool ?_ | with_reducible refine ok_not ?_ | with_reducible refine ok_notV ?_ | with_reducible refine ok_sl ?_ | with_reducible refine ok_part ?_ | with_reducible refine ok_join ?_ | with_reducible refine ok_it ?_ | with_reducible refine ok_itA ?_ | with_reducible refine ok_call0 ?_ | with_reducible refine ok_callN ?_ | with_reducible refine ok_chain ?_ | ((with_reducible apply ok_var); rfl) | ((with_reducible apply ok_varL); rfl) | ((with_reducible apply ok_ixN); rfl) | ((with_reducible apply ok_ixM); rfl) | ((with_reducible apply ok_lenN); rfl) | ((with_reducible apply ok_lenM); rfl) | ((with_reducible apply ok_callY); rfl) | with_reducible refine dn_set ?_ | with_reducible refine dn_ret ?_ | with_reducible refine dn_retN ?_ | with_reducible refine dn_new ?_ | with_reducible refine dn_parN ?_ | with_reducible refine dn_par ?_ | with_reducible refine dn_pair ?_ | with_reducible refine dn_raise ?_ | ((with_reducible apply dn_app); rfl) | with_reducible refine dn_item ?_ | with_reducible refine sq_set ?_ | with_reducible refine sq_pair ?_ | with_reducible refine sq_par ?_ | with_reducible refine sq_parN ?_ | with_reducible refine sq_new ?_ | with_reducible refine sq_item ?_ | ((with_reducible apply sq_app); rfl) | refine ⟨_, _, _, rfl, rfl, rfl, ?_⟩ | refine ⟨_, rfl, ?_⟩ | refine ⟨⟨_, rfl⟩, ?_⟩ | refine ⟨Nat.le_of_ble_eq_true rfl, ?_⟩)
      exact ⟨(fun z => nomatch z), fun _ => ⟨_, rfl, m3, rfl, vl_vd ⟨by rw [List.length_map]; omega, fun d hd => by
        obtain ⟨y, hy, rfl⟩ := List.mem_map.mp hd
        exact f3_cell s0 hm2 (v.2 y hy)⟩ (by omega), p3.mono (by omega)⟩⟩
  repeat (first | with_reducible refine ok_op ?_ | with_reducible refine ok_un ?_ | with_reducible refine ok_cb ?_ | with_reducible refine ok_cons ?_ | with_reducible refine ok_nil ?_ | with_reducible refine ok_giv ?_ | with_reducible refine ok_lst ?_ | with_reducible refine ok_tup ?_ | with_reducible refine ok_dic ?_ | with_reducible refine ok_bool ?_ | with_reducible refine ok_not ?_ | with_reducible refine ok_notV ?_ | with_reducible refine ok_sl ?_ | with_reducible refine ok_part ?_ | with_reducible refine ok_join ?_ | with_reducible refine ok_it ?_ | with_reducible refine ok_itA ?_ | with_reducible refine ok_call0 ?_ | with_reducible refine ok_callN ?_ | with_reducible refine ok_chain ?_ | ((with_reducible apply ok_var); rfl) | ((with_reducible apply ok_varL); rfl) | ((with_reducible apply ok_ixN); rfl) | ((with_reducible apply ok_ixM); rfl) | ((with_reducible apply ok_lenN); rfl) | ((with_reducible apply ok_lenM); rfl) | ((with_reducible apply ok_callY); rfl) | with_reducible refine dn_set ?_ | with_reducible refine dn_ret ?_ | with_reducible refine dn_retN ?_ | with_reducible refine dn_new ?_ | with_reducible refine dn_parN ?_ | with_reducible refine dn_par ?_ | with_reducible refine dn_pair ?_ | with_reducible refine dn_raise ?_ | ((with_reducible apply dn_app); rfl) | with_reducible refine dn_item ?_ | with_reducible refine sq_set ?_ | with_reducible refine sq_pair ?_ | with_reducible refine sq_par ?_ | with_reducible refine sq_parN ?_ | with_reducible refine sq_new ?_ | with_reducible refine sq_item ?_ | ((with_reducible apply sq_app); rfl) | refine ⟨_, _, _, rfl, rfl, rfl, ?_⟩ | refine ⟨_, rfl, ?_⟩ | refine ⟨⟨_, rfl⟩, ?_⟩ | refine ⟨Nat.le_of_ble_eq_true rfl, ?_⟩)
  obtain ⟨g, m4, e4, hg, p4⟩ := of_ok (A := A) (l := [.str "o", .str ".", .str "#", .str "O", .str " ", .str "", .str "oo"]) p3 (by omega) (by decide) (by decide)
  obtain ⟨y, rfl, yl, yc⟩ : ∃ y : Str, g = .str y ∧ y.length ≤ 2 ∧ ∀ c ∈ y.cps.toList, c < 1114112 := by
    simp only [List.mem_cons, List.not_mem_nil, or_false] at hg
    rcases hg with rfl | rfl | rfl | rfl | rfl | rfl | rfl <;> exact ⟨_, rfl, by decide, by decide⟩
  refine ⟨_, _, e4, ?_⟩
  repeat (first | with_reducible refine ok_op ?_ | with_reducible refine ok_un ?_ | with_reducible refine ok_cb ?_ | with_reducible refine ok_cons ?_ | with_reducible refine ok_nil ?_ | with_reducible refine ok_giv ?_ | with_reducible refine ok_lst ?_ | with_reducible refine ok_tup ?_ | with_reducible refine ok_dic ?_ | with_reducible refine ok_bool ?_ | with_reducible refine ok_not ?_ | with_reducible refine ok_notV ?_ | with_reducible refine ok_sl ?_ | with_reducible refine ok_part ?_ | with_reducible refine ok_join ?_ | with_reducible refine ok_it ?_ | with_reducible refine ok_itA ?_ | with_reducible refine ok_call0 ?_ | with_reducible refine ok_callN ?_ | with_reducible refine ok_chain ?_ | ((with_reducible apply ok_var); rfl) | ((with_reducible apply ok_varL); rfl) | ((with_reducible apply ok_ixN); rfl) | ((with_reducible apply ok_ixM); rfl) | ((with_reducible apply ok_lenN); rfl) | ((with_reducible apply ok_lenM); rfl) | ((with_reducible apply ok_callY); rfl) | with_reducible refine dn_set ?_ | with_reducible refine dn_ret ?_ | with_reducible refine dn_retN ?_ | with_reducible refine dn_new ?_ | with_reducible refine dn_parN ?_ | with_reducible refine dn_par ?_ | with_reducible refine dn_pair ?_ | with_reducible refine dn_raise ?_ | ((with_reducible apply dn_app); rfl) | with_reducible refine dn_item ?_ | with_reducible refine sq_set ?_ | with_reducible refine sq_pair ?_ | with_reducible refine sq_par ?_ | with_reducible refine sq_parN ?_ | with_reducible refine sq_new ?_ | with_reducible refine sq_item ?_ | ((with_reducible apply sq_app); rfl) | refine ⟨_, _, _, rfl, rfl, rfl, ?_⟩ | refine ⟨_, rfl, ?_⟩ | refine ⟨⟨_, rfl⟩, ?_⟩ | refine ⟨Nat.le_of_ble_eq_true rfl, ?_⟩)
  refine ⟨_, sl_to' (by omega), ?_⟩
  repeat (first | with_reducible refine ok_op ?_ | with_reducible refine ok_un ?_ | with_reducible refine ok_cb ?_ | with_reducible refine ok_cons ?_ | with_reducible refine ok_nil ?_ | with_reducible refine ok_giv ?_ | with_reducible refine ok_lst ?_ | with_reducible refine ok_tup ?_ | with_reducible refine ok_dic ?_ | with_reducible refine ok_bool ?_ | with_reducible refine ok_not ?_ | with_reducible refine ok_notV ?_ | with_reducible refine ok_sl ?_ | with_reducible refine ok_part ?_ | with_reducible refine ok_join ?_ | with_reducible refine ok_it ?_ | with_reducible refine ok_itA ?_ | with_reducible refine ok_call0 ?_ | with_reducible refine ok_callN ?_ | with_reducible refine ok_chain ?_ | ((with_reducible apply ok_var); rfl) | ((with_reducible apply ok_varL); rfl) | ((with_reducible apply ok_ixN); rfl) | ((with_reducible apply ok_ixM); rfl) | ((with_reducible apply ok_lenN); rfl) | ((with_reducible apply ok_lenM); rfl) | ((with_reducible apply ok_callY); rfl) | with_reducible refine dn_set ?_ | with_reducible refine dn_ret ?_ | with_reducible refine dn_retN ?_ | with_reducible refine dn_new ?_ | with_reducible refine dn_parN ?_ | with_reducible refine dn_par ?_ | with_reducible refine dn_pair ?_ | with_reducible refine dn_raise ?_ | ((with_reducible apply dn_app); rfl) | with_reducible refine dn_item ?_ | with_reducible refine sq_set ?_ | with_reducible refine sq_pair ?_ | with_reducible refine sq_par ?_ | with_reducible refine sq_parN ?_ | with_reducible refine sq_new ?_ | with_reducible refine sq_item ?_ | ((with_reducible apply sq_app); rfl) | refine ⟨_, _, _, rfl, rfl, rfl, ?_⟩ | refine ⟨_, rfl, ?_⟩ | refine ⟨⟨_, rfl⟩, ?_⟩ | refine ⟨Nat.le_of_ble_eq_true rfl, ?_⟩)
  have q1 := (cut_small cx hm2 s0).1
  refine ⟨_, add_ss (by omega), ?_⟩
  repeat (first | with_reducible refine ok_op ?_ | with_reducible refine ok_un ?_ | with_reducible refine ok_cb ?_ | with_reducible refine ok_cons ?_ | with_reducible refine ok_nil ?_ | with_reducible refine ok_giv ?_ | with_reducible refine ok_lst ?_ | with_reducible refine ok_tup ?_ | with_reducible refine ok_dic ?_ | with_reducible refine ok_bool ?_ | with_reducible refine ok_not ?_ | with_reducible refine ok_notV ?_ | with_reducible refine ok_sl ?_ | with_reducible refine ok_part ?_ | with_reducible refine ok_join ?_ | with_reducible refine ok_it ?_ | with_reducible refine ok_itA ?_ | with_reducible refine ok_call0 ?_ | with_reducible refine ok_callN ?_ | with_reducible refine ok_chain ?_ | ((with_reducible apply ok_var); rfl) | ((with_reducible apply ok_varL); rfl) | ((with_reducible apply ok_ixN); rfl) | ((with_reducible apply ok_ixM); rfl) | ((with_reducible apply ok_lenN); rfl) | ((with_reducible apply ok_lenM); rfl) | ((with_reducible apply ok_callY); rfl) | with_reducible refine dn_set ?_ | with_reducible refine dn_ret ?_ | with_reducible refine dn_retN ?_ | with_reducible refine dn_new ?_ | with_reducible refine dn_parN ?_ | with_reducible refine dn_par ?_ | with_reducible refine dn_pair ?_ | with_reducible refine dn_raise ?_ | ((with_reducible apply dn_app); rfl) | with_reducible refine dn_item ?_ | with_reducible refine sq_set ?_ | with_reducible refine sq_pair ?_ | with_reducible refine sq_par ?_ | with_reducible refine sq_parN ?_ | with_reducible refine sq_new ?_ | with_reducible refine sq_item ?_ | ((with_reducible apply sq_app); rfl) | refine ⟨_, _, _, rfl, rfl, rfl, ?_⟩ | refine ⟨_, rfl, ?_⟩ | refine ⟨⟨_, rfl⟩, ?_⟩ | refine ⟨Nat.le_of_ble_eq_true rfl, ?_⟩)
  have u0 : 0 ≤ s + (if decide (way = 4) = true then 1 else 0) := by split <;> omega
  have q2 := (cut_small cx hm2 u0).2
  refine ⟨_, sl_from' (by omega), _, add_ss (by rw [app_len]; omega), ?_⟩
  obtain ⟨a', b', h1, h2, _, _, h3, h4, _, _⟩ := mid_ok (s := s) (u := s + (if decide (way = 4) = true then 1 else 0)) cx (by omega) s0 u0 yl yc (by split <;> omega)
  rw [sl_to' (by omega)] at h1
  rw [sl_from' (by omega)] at h2
  cases h1
  cases h2
  repeat (first | with_reducible refine ok_op ?_ | with_reducible refine ok_un ?_ | with_reducible refine ok_cb ?_ | with_reducible refine ok_cons ?_ | with_reducible refine ok_nil ?_ | with_reducible refine ok_giv ?_ | with_reducible refine ok_lst ?_ | with_reducible refine ok_tup ?_ | with_reducible refine ok_dic ?_ | with_reducible refine ok_bool ?_ | with_reducible refine ok_not ?_ | with_reducible refine ok_notV ?_ | with_reducible refine ok_sl ?_ | with_reducible refine ok_part ?_ | with_reducible refine ok_join ?_ | with_reducible refine ok_it ?_ | with_reducible refine ok_itA ?_ | with_reducible refine ok_call0 ?_ | with_reducible refine ok_callN ?_ | with_reducible refine ok_chain ?_ | ((with_reducible apply ok_var); rfl) | ((with_reducible apply ok_varL); rfl) | ((with_reducible apply ok_ixN); rfl) | ((with_reducible apply ok_ixM); rfl) | ((with_reducible apply ok_lenN); rfl) | ((with_reducible apply ok_lenM); rfl) | ((with_reducible apply ok_callY); rfl) | with_reducible refine dn_set ?_ | with_reducible refine dn_ret ?_ | with_reducible refine dn_retN ?_ | with_reducible refine dn_new ?_ | with_reducible refine dn_parN ?_ | with_reducible refine dn_par ?_ | with_reducible refine dn_pair ?_ | with_reducible refine dn_raise ?_ | ((with_reducible apply dn_app); rfl) | with_reducible refine dn_item ?_ | with_reducible refine sq_set ?_ | with_reducible refine sq_pair ?_ | with_reducible refine sq_par ?_ | with_reducible refine sq_parN ?_ | with_reducible refine sq_new ?_ | with_reducible refine sq_item ?_ | ((with_reducible apply sq_app); rfl) | refine ⟨_, _, _, rfl, rfl, rfl, ?_⟩ | refine ⟨_, rfl, ?_⟩ | refine ⟨⟨_, rfl⟩, ?_⟩ | refine ⟨Nat.le_of_ble_eq_true rfl, ?_⟩)
  rw [cut_to a0]
  refine ⟨_, add_tt (by rw [lt]; simp; omega), ?_⟩
  repeat (first | with_reducible refine ok_op ?_ | with_reducible refine ok_un ?_ | with_reducible refine ok_cb ?_ | with_reducible refine ok_cons ?_ | with_reducible refine ok_nil ?_ | with_reducible refine ok_giv ?_ | with_reducible refine ok_lst ?_ | with_reducible refine ok_tup ?_ | with_reducible refine ok_dic ?_ | with_reducible refine ok_bool ?_ | with_reducible refine ok_not ?_ | with_reducible refine ok_notV ?_ | with_reducible refine ok_sl ?_ | with_reducible refine ok_part ?_ | with_reducible refine ok_join ?_ | with_reducible refine ok_it ?_ | with_reducible refine ok_itA ?_ | with_reducible refine ok_call0 ?_ | with_reducible refine ok_callN ?_ | with_reducible refine ok_chain ?_ | ((with_reducible apply ok_var); rfl) | ((with_reducible apply ok_varL); rfl) | ((with_reducible apply ok_ixN); rfl) | ((with_reducible apply ok_ixM); rfl) | ((with_reducible apply ok_lenN); rfl) | ((with_reducible apply ok_lenM); rfl) | ((with_reducible apply ok_callY); rfl) | with_reducible refine dn_set ?_ | with_reducible refine dn_ret ?_ | with_reducible refine dn_retN ?_ | with_reducible refine dn_new ?_ | with_reducible refine dn_parN ?_ | with_reducible refine dn_par ?_ | with_reducible refine dn_pair ?_ | with_reducible refine dn_raise ?_ | ((with_reducible apply dn_app); rfl) | with_reducible refine dn_item ?_ | with_reducible refine sq_set ?_ | with_reducible refine sq_pair ?_ | with_reducible refine sq_par ?_ | with_reducible refine sq_parN ?_ | with_reducible refine sq_new ?_ | with_reducible refine sq_item ?_ | ((with_reducible apply sq_app); rfl) | refine ⟨_, _, _, rfl, rfl, rfl, ?_⟩ | refine ⟨_, rfl, ?_⟩ | refine ⟨⟨_, rfl⟩, ?_⟩ | refine ⟨Nat.le_of_ble_eq_true rfl, ?_⟩)
  rw [cut_from (show 0 ≤ a + 1 by omega)]
  exact ⟨_, add_tt (by rw [List.length_append, lt, le]; simp; omega), _, rfl, m4, rfl, put (cell_str h3 (by omega) h4), p4.mono (by omega)⟩
end L02
namespace L02
open PySem L2 Wd
/-! ### what is a board -/
def sgB (c : Nat) : Bool := decide (c = 111) || decide (c = 46)
theorem all_bl {g : D → Bool} : ∀ {ds : List D}, allF [.lst (ds.map fun d => .bl (g d))] = some (.bl (ds.all g)) := fun {ds} => by
  have : boolsL (ds.map fun d => .bl (g d)) = some (ds.map g) := by
    induction ds with
    | nil => rfl
    | cons d r ih => simp only [List.map_cons, boolsL, ih, Option.map_some]
  show (boolsL (ds.map fun d => .bl (g d))).map (fun bs => D.bl (bs.all id)) = _
  rw [this, Option.map_some, List.all_map]
  rfl
theorem in_o {x : Str} : inF (.str "o") (.str x) = some (.bl (decide (111 ∈ x.cps.toList))) := rfl
theorem in_od {c : Nat} : inF (.str ⟨#[c]⟩) (.str "o.") = some (.bl (sgB c)) := by
  show some (D.bl (decide (c ∈ ([111, 46] : List Nat)))) = _
  congr 2
  unfold sgB
  by_cases h : c = 111
  · subst h; rfl
  · by_cases q : c = 46
    · subst q; rfl
    · simp [h, q]
theorem in_pair {c : Nat} (h : c < 1114112) : inF (.str ⟨#[c]⟩) (.tup [.str "o", .str "."]) = some (.bl (sgB c)) := by
  have ok : ∀ y : Str, PyData.strOk y = true → PlN 0 (.str y) := fun y h => pln_str h
  have p1 : plB (.str ⟨#[c]⟩) = true := (ok _ (by show (#[c] : Array Nat).all _ = true; simp; omega)).b
  have p2 : plB (.tup [.str "o", .str "."]) = true := (pln_tup (n := 0) fun d hd => by
    simp only [List.mem_cons, List.not_mem_nil, or_false] at hd
    rcases hd with rfl | rfl
    · exact ok _ (by decide +kernel)
    · exact ok _ (by decide +kernel)).b
  show (if plB (.str ⟨#[c]⟩) && plB (.tup [.str "o", .str "."]) then some (([.str "o", .str "."] : List D).any fun z => PyData.eqv z.py (D.str ⟨#[c]⟩).py) else none).map D.bl = _
  rw [p1, p2]
  show some (D.bl (([.str "o", .str "."] : List D).any fun z => PyData.eqv z.py (D.str ⟨#[c]⟩).py)) = _
  congr 2
  have e : ∀ y : Str, PyData.eqv (D.str y).py (D.str ⟨#[c]⟩).py = decide (y = ⟨#[c]⟩) := fun y => by
    have := eqv_iff (.str y) (.str ⟨#[c]⟩) (by simp [D.noB]) (by simp [D.noB])
    by_cases h : y = ⟨#[c]⟩
    · rw [decide_eq_true h]; exact this.mpr (by rw [h])
    · rw [decide_eq_false h]
      cases q : PyData.eqv (D.str y).py (D.str ⟨#[c]⟩).py with
      | false => rfl
      | true => exact absurd (D.str.inj (this.mp q)) h
  show ((PyData.eqv (D.str "o").py (D.str ⟨#[c]⟩).py) || ((PyData.eqv (D.str ".").py (D.str ⟨#[c]⟩).py) || false)) = _
  rw [e, e, Bool.or_false]
  unfold sgB
  have a : decide ((("o" : String) : Str) = ⟨#[c]⟩) = decide (c = 111) := by
    by_cases h : c = 111
    · subst h; rfl
    · rw [decide_eq_false h]
      refine decide_eq_false fun q => h ?_
      have := congrArg (fun s : Str => s.cps.toList) q
      have t : (("o" : String) : Str).cps.toList = [111] := by decide
      simp only [t] at this
      injection this with this
      exact this.symm
  have b : decide ((("." : String) : Str) = ⟨#[c]⟩) = decide (c = 46) := by
    by_cases h : c = 46
    · subst h; rfl
    · rw [decide_eq_false h]
      refine decide_eq_false fun q => h ?_
      have := congrArg (fun s : Str => s.cps.toList) q
      have t : (("." : String) : Str).cps.toList = [46] := by decide
      simp only [t] at this
      injection this with this
      exact this.symm
  rw [a, b]
def rowB : D → Bool
  | .str x => (decide (1 ≤ x.length) && decide (x.length ≤ 10)) && x.cps.toList.all sgB
  | _ => false
theorem le_ii {i j : Int} : leF (.int i) (.int j) = some (.bl (decide (i ≤ j))) := rfl
theorem is_row_ok {A : Adr} {d : D} (b : Bd 2 d) : m__is_row A [d] = some (.ok (.bl (rowB d))) := by
  have key : ∃ r, m__is_row A [d] = some (.ok r) ∧ r = .bl (rowB d) := by
    unfold m__is_row
    refine fnX rfl (P := fun r => r = .bl (rowB d)) ?_
    refine dn_seq (dn_if (ok_or ?_))
    repeat (first | with_reducible refine ok_op ?_ | with_reducible refine ok_un ?_ | with_reducible refine ok_cb ?_ | with_reducible refine ok_cons ?_ | with_reducible refine ok_nil ?_ | with_reducible refine ok_giv ?_ | with_reducible refine ok_lst ?_ | with_reducible refine ok_tup ?_ | with_reducible refine ok_dic ?_ | with_reducible refine ok_bool ?_ | with_reducible refine ok_not ?_ | with_reducible refine ok_notV ?_ | with_reducible refine ok_sl ?_ | with_reducible refine ok_part ?_ | with_reducible refine ok_join ?_ | with_reducible refine ok_it ?_ | with_reducible refine ok_itA ?_ | with_reducible refine ok_call0 ?_ | with_reducible refine ok_callN ?_ | with_reducible refine ok_chain ?_ | ((with_reducible apply ok_var); rfl) | ((with_reducible apply ok_varL); rfl) | ((with_reducible apply ok_ixN); rfl) | ((with_reducible apply ok_ixM); rfl) | ((with_reducible apply ok_lenN); rfl) | ((with_reducible apply ok_lenM); rfl) | ((with_reducible apply ok_callY); rfl) | with_reducible refine dn_set ?_ | with_reducible refine dn_ret ?_ | with_reducible refine dn_retN ?_ | with_reducible refine dn_new ?_ | with_reducible refine dn_parN ?_ | with_reducible refine dn_par ?_ | with_reducible refine dn_pair ?_ | with_reducible refine dn_raise ?_ | ((with_reducible apply dn_app); rfl) | with_reducible refine dn_item ?_ | with_reducible refine sq_set ?_ | with_reducible refine sq_pair ?_ | with_reducible refine sq_par ?_ | with_reducible refine sq_parN ?_ | with_reducible refine sq_new ?_ | with_reducible refine sq_item ?_ | ((with_reducible apply sq_app); rfl) | refine ⟨_, _, _, rfl, rfl, rfl, ?_⟩ | refine ⟨_, rfl, ?_⟩ | refine ⟨⟨_, rfl⟩, ?_⟩ | refine ⟨Nat.le_of_ble_eq_true rfl, ?_⟩)
    refine ⟨_, is_ty b, _, rfl, fun h => ⟨fun _ => ?_, fun z => (nomatch z)⟩, fun h => ?_⟩
    · repeat (first | with_reducible refine ok_op ?_ | with_reducible refine ok_un ?_ | with_reducible refine ok_cb ?_ | with_reducible refine ok_cons ?_ | with_reducible refine ok_nil ?_ | with_reducible refine ok_giv ?_ | with_reducible refine ok_lst ?_ | with_reducible refine ok_tup ?_ | with_reducible refine ok_dic ?_ | with_reducible refine ok_bool ?_ | with_reducible refine ok_not ?_ | with_reducible refine ok_notV ?_ | with_reducible refine ok_sl ?_ | with_reducible refine ok_part ?_ | with_reducible refine ok_join ?_ | with_reducible refine ok_it ?_ | with_reducible refine ok_itA ?_ | with_reducible refine ok_call0 ?_ | with_reducible refine ok_callN ?_ | with_reducible refine ok_chain ?_ | ((with_reducible apply ok_var); rfl) | ((with_reducible apply ok_varL); rfl) | ((with_reducible apply ok_ixN); rfl) | ((with_reducible apply ok_ixM); rfl) | ((with_reducible apply ok_lenN); rfl) | ((with_reducible apply ok_lenM); rfl) | ((with_reducible apply ok_callY); rfl) | with_reducible refine dn_set ?_ | with_reducible refine dn_ret ?_ | with_reducible refine dn_retN ?_ | with_reducible refine dn_new ?_ | with_reducible refine dn_parN ?_ | with_reducible refine dn_par ?_ | with_reducible refine dn_pair ?_ | with_reducible refine dn_raise ?_ | ((with_reducible apply dn_app); rfl) | with_reducible refine dn_item ?_ | with_reducible refine sq_set ?_ | with_reducible refine sq_pair ?_ | with_reducible refine sq_par ?_ | with_reducible refine sq_parN ?_ | with_reducible refine sq_new ?_ | with_reducible refine sq_item ?_ | ((with_reducible apply sq_app); rfl) | refine ⟨_, _, _, rfl, rfl, rfl, ?_⟩ | refine ⟨_, rfl, ?_⟩ | refine ⟨⟨_, rfl⟩, ?_⟩ | refine ⟨Nat.le_of_ble_eq_true rfl, ?_⟩)
      refine ⟨(fun z => nomatch z), fun _ => ⟨_, rfl, ?_⟩⟩
      cases d <;> first | rfl | cases h
    · cases d <;> first | (cases h; done) | skip
      rename_i x
      have hx : St x := by cases b with | str k x h => exact h
      obtain ⟨xl, xc⟩ := hx
      repeat (first | with_reducible refine ok_op ?_ | with_reducible refine ok_un ?_ | with_reducible refine ok_cb ?_ | with_reducible refine ok_cons ?_ | with_reducible refine ok_nil ?_ | with_reducible refine ok_giv ?_ | with_reducible refine ok_lst ?_ | with_reducible refine ok_tup ?_ | with_reducible refine ok_dic ?_ | with_reducible refine ok_bool ?_ | with_reducible refine ok_not ?_ | with_reducible refine ok_notV ?_ | with_reducible refine ok_sl ?_ | with_reducible refine ok_part ?_ | with_reducible refine ok_join ?_ | with_reducible refine ok_it ?_ | with_reducible refine ok_itA ?_ | with_reducible refine ok_call0 ?_ | with_reducible refine ok_callN ?_ | with_reducible refine ok_chain ?_ | ((with_reducible apply ok_var); rfl) | ((with_reducible apply ok_varL); rfl) | ((with_reducible apply ok_ixN); rfl) | ((with_reducible apply ok_ixM); rfl) | ((with_reducible apply ok_lenN); rfl) | ((with_reducible apply ok_lenM); rfl) | ((with_reducible apply ok_callY); rfl) | with_reducible refine dn_set ?_ | with_reducible refine dn_ret ?_ | with_reducible refine dn_retN ?_ | with_reducible refine dn_new ?_ | with_reducible refine dn_parN ?_ | with_reducible refine dn_par ?_ | with_reducible refine dn_pair ?_ | with_reducible refine dn_raise ?_ | ((with_reducible apply dn_app); rfl) | with_reducible refine dn_item ?_ | with_reducible refine sq_set ?_ | with_reducible refine sq_pair ?_ | with_reducible refine sq_par ?_ | with_reducible refine sq_parN ?_ | with_reducible refine sq_new ?_ | with_reducible refine sq_item ?_ | ((with_reducible apply sq_app); rfl) | refine ⟨_, _, _, rfl, rfl, rfl, ?_⟩ | refine ⟨_, rfl, ?_⟩ | refine ⟨⟨_, rfl⟩, ?_⟩ | refine ⟨Nat.le_of_ble_eq_true rfl, ?_⟩)
      refine ⟨_, len_str (by omega), _, le_ii, fun h1 => ?_, fun h1 => ⟨_, rfl, fun _ => ?_, fun z => (nomatch z)⟩⟩
      · have h1 := of_decide_eq_true h1
        repeat (first | with_reducible refine ok_op ?_ | with_reducible refine ok_un ?_ | with_reducible refine ok_cb ?_ | with_reducible refine ok_cons ?_ | with_reducible refine ok_nil ?_ | with_reducible refine ok_giv ?_ | with_reducible refine ok_lst ?_ | with_reducible refine ok_tup ?_ | with_reducible refine ok_dic ?_ | with_reducible refine ok_bool ?_ | with_reducible refine ok_not ?_ | with_reducible refine ok_notV ?_ | with_reducible refine ok_sl ?_ | with_reducible refine ok_part ?_ | with_reducible refine ok_join ?_ | with_reducible refine ok_it ?_ | with_reducible refine ok_itA ?_ | with_reducible refine ok_call0 ?_ | with_reducible refine ok_callN ?_ | with_reducible refine ok_chain ?_ | ((with_reducible apply ok_var); rfl) | ((with_reducible apply ok_varL); rfl) | ((with_reducible apply ok_ixN); rfl) | ((with_reducible apply ok_ixM); rfl) | ((with_reducible apply ok_lenN); rfl) | ((with_reducible apply ok_lenM); rfl) | ((with_reducible apply ok_callY); rfl) | with_reducible refine dn_set ?_ | with_reducible refine dn_ret ?_ | with_reducible refine dn_retN ?_ | with_reducible refine dn_new ?_ | with_reducible refine dn_parN ?_ | with_reducible refine dn_par ?_ | with_reducible refine dn_pair ?_ | with_reducible refine dn_raise ?_ | ((with_reducible apply dn_app); rfl) | with_reducible refine dn_item ?_ | with_reducible refine sq_set ?_ | with_reducible refine sq_pair ?_ | with_reducible refine sq_par ?_ | with_reducible refine sq_parN ?_ | with_reducible refine sq_new ?_ | with_reducible refine sq_item ?_ | ((with_reducible apply sq_app); rfl) | refine ⟨_, _, _, rfl, rfl, rfl, ?_⟩ | refine ⟨_, rfl, ?_⟩ | refine ⟨⟨_, rfl⟩, ?_⟩ | refine ⟨Nat.le_of_ble_eq_true rfl, ?_⟩)
        refine ⟨fun h2 => ?_, fun h2 => dn_nx ⟨fun _ => ?_, fun z => absurd rfl z⟩⟩
        · have h2 : ¬ (x.length : Int) ≤ 10 := by simpa using h2
          repeat (first | with_reducible refine ok_op ?_ | with_reducible refine ok_un ?_ | with_reducible refine ok_cb ?_ | with_reducible refine ok_cons ?_ | with_reducible refine ok_nil ?_ | with_reducible refine ok_giv ?_ | with_reducible refine ok_lst ?_ | with_reducible refine ok_tup ?_ | with_reducible refine ok_dic ?_ | with_reducible refine ok_bool ?_ | with_reducible refine ok_not ?_ | with_reducible refine ok_notV ?_ | with_reducible refine ok_sl ?_ | with_reducible refine ok_part ?_ | with_reducible refine ok_join ?_ | with_reducible refine ok_it ?_ | with_reducible refine ok_itA ?_ | with_reducible refine ok_call0 ?_ | with_reducible refine ok_callN ?_ | with_reducible refine ok_chain ?_ | ((with_reducible apply ok_var); rfl) | ((with_reducible apply ok_varL); rfl) | ((with_reducible apply ok_ixN); rfl) | ((with_reducible apply ok_ixM); rfl) | ((with_reducible apply ok_lenN); rfl) | ((with_reducible apply ok_lenM); rfl) | ((with_reducible apply ok_callY); rfl) | with_reducible refine dn_set ?_ | with_reducible refine dn_ret ?_ | with_reducible refine dn_retN ?_ | with_reducible refine dn_new ?_ | with_reducible refine dn_parN ?_ | with_reducible refine dn_par ?_ | with_reducible refine dn_pair ?_ | with_reducible refine dn_raise ?_ | ((with_reducible apply dn_app); rfl) | with_reducible refine dn_item ?_ | with_reducible refine sq_set ?_ | with_reducible refine sq_pair ?_ | with_reducible refine sq_par ?_ | with_reducible refine sq_parN ?_ | with_reducible refine sq_new ?_ | with_reducible refine sq_item ?_ | ((with_reducible apply sq_app); rfl) | refine ⟨_, _, _, rfl, rfl, rfl, ?_⟩ | refine ⟨_, rfl, ?_⟩ | refine ⟨⟨_, rfl⟩, ?_⟩ | refine ⟨Nat.le_of_ble_eq_true rfl, ?_⟩)
          refine ⟨(fun z => nomatch z), fun _ => ⟨_, rfl, ?_⟩⟩
          show D.bl false = D.bl ((decide (1 ≤ x.length) && decide (x.length ≤ 10)) && x.cps.toList.all sgB)
          rw [decide_eq_false (show ¬ x.length ≤ 10 by omega), Bool.and_false, Bool.false_and]
        · have h2 : (x.length : Int) ≤ 10 := by simpa using h2
          repeat (first | with_reducible refine ok_op ?_ | with_reducible refine ok_un ?_ | with_reducible refine ok_cb ?_ | with_reducible refine ok_cons ?_ | with_reducible refine ok_nil ?_ | with_reducible refine ok_giv ?_ | with_reducible refine ok_lst ?_ | with_reducible refine ok_tup ?_ | with_reducible refine ok_dic ?_ | with_reducible refine ok_bool ?_ | with_reducible refine ok_not ?_ | with_reducible refine ok_notV ?_ | with_reducible refine ok_sl ?_ | with_reducible refine ok_part ?_ | with_reducible refine ok_join ?_ | with_reducible refine ok_it ?_ | with_reducible refine ok_itA ?_ | with_reducible refine ok_call0 ?_ | with_reducible refine ok_callN ?_ | with_reducible refine ok_chain ?_ | ((with_reducible apply ok_var); rfl) | ((with_reducible apply ok_varL); rfl) | ((with_reducible apply ok_ixN); rfl) | ((with_reducible apply ok_ixM); rfl) | ((with_reducible apply ok_lenN); rfl) | ((with_reducible apply ok_lenM); rfl) | ((with_reducible apply ok_callY); rfl) | with_reducible refine dn_set ?_ | with_reducible refine dn_ret ?_ | with_reducible refine dn_retN ?_ | with_reducible refine dn_new ?_ | with_reducible refine dn_parN ?_ | with_reducible refine dn_par ?_ | with_reducible refine dn_pair ?_ | with_reducible refine dn_raise ?_ | ((with_reducible apply dn_app); rfl) | with_reducible refine dn_item ?_ | with_reducible refine sq_set ?_ | with_reducible refine sq_pair ?_ | with_reducible refine sq_par ?_ | with_reducible refine sq_parN ?_ | with_reducible refine sq_new ?_ | with_reducible refine sq_item ?_ | ((with_reducible apply sq_app); rfl) | refine ⟨_, _, _, rfl, rfl, rfl, ?_⟩ | refine ⟨_, rfl, ?_⟩ | refine ⟨⟨_, rfl⟩, ?_⟩ | refine ⟨Nat.le_of_ble_eq_true rfl, ?_⟩)
          refine ok_lc (fun d => match d with | .str ⟨⟨[c]⟩⟩ => .bl (sgB c) | _ => .bl false) ?_
          repeat (first | with_reducible refine ok_op ?_ | with_reducible refine ok_un ?_ | with_reducible refine ok_cb ?_ | with_reducible refine ok_cons ?_ | with_reducible refine ok_nil ?_ | with_reducible refine ok_giv ?_ | with_reducible refine ok_lst ?_ | with_reducible refine ok_tup ?_ | with_reducible refine ok_dic ?_ | with_reducible refine ok_bool ?_ | with_reducible refine ok_not ?_ | with_reducible refine ok_notV ?_ | with_reducible refine ok_sl ?_ | with_reducible refine ok_part ?_ | with_reducible refine ok_join ?_ | with_reducible refine ok_it ?_ | with_reducible refine ok_itA ?_ | with_reducible refine ok_call0 ?_ | with_reducible refine ok_callN ?_ | with_reducible refine ok_chain ?_ | ((with_reducible apply ok_var); rfl) | ((with_reducible apply ok_varL); rfl) | ((with_reducible apply ok_ixN); rfl) | ((with_reducible apply ok_ixM); rfl) | ((with_reducible apply ok_lenN); rfl) | ((with_reducible apply ok_lenM); rfl) | ((with_reducible apply ok_callY); rfl) | with_reducible refine dn_set ?_ | with_reducible refine dn_ret ?_ | with_reducible refine dn_retN ?_ | with_reducible refine dn_new ?_ | with_reducible refine dn_parN ?_ | with_reducible refine dn_par ?_ | with_reducible refine dn_pair ?_ | with_reducible refine dn_raise ?_ | ((with_reducible apply dn_app); rfl) | with_reducible refine dn_item ?_ | with_reducible refine sq_set ?_ | with_reducible refine sq_pair ?_ | with_reducible refine sq_par ?_ | with_reducible refine sq_parN ?_ | with_reducible refine sq_new ?_ | with_reducible refine sq_item ?_ | ((with_reducible apply sq_app); rfl) | refine ⟨_, _, _, rfl, rfl, rfl, ?_⟩ | refine ⟨_, rfl, ?_⟩ | refine ⟨⟨_, rfl⟩, ?_⟩ | refine ⟨Nat.le_of_ble_eq_true rfl, ?_⟩)
          refine ⟨by rw [List.length_map, ← len_list]; omega, fun d hd => ?_, ?_⟩
          · obtain ⟨c, hc, rfl⟩ := List.mem_map.mp hd
            refine ⟨_, rfl, ?_⟩
            repeat (first | with_reducible refine ok_op ?_ | with_reducible refine ok_un ?_ | with_reducible refine ok_cb ?_ | with_reducible refine ok_cons ?_ | with_reducible refine ok_nil ?_ | with_reducible refine ok_giv ?_ | with_reducible refine ok_lst ?_ | with_reducible refine ok_tup ?_ | with_reducible refine ok_dic ?_ | with_reducible refine ok_bool ?_ | with_reducible refine ok_not ?_ | with_reducible refine ok_notV ?_ | with_reducible refine ok_sl ?_ | with_reducible refine ok_part ?_ | with_reducible refine ok_join ?_ | with_reducible refine ok_it ?_ | with_reducible refine ok_itA ?_ | with_reducible refine ok_call0 ?_ | with_reducible refine ok_callN ?_ | with_reducible refine ok_chain ?_ | ((with_reducible apply ok_var); rfl) | ((with_reducible apply ok_varL); rfl) | ((with_reducible apply ok_ixN); rfl) | ((with_reducible apply ok_ixM); rfl) | ((with_reducible apply ok_lenN); rfl) | ((with_reducible apply ok_lenM); rfl) | ((with_reducible apply ok_callY); rfl) | with_reducible refine dn_set ?_ | with_reducible refine dn_ret ?_ | with_reducible refine dn_retN ?_ | with_reducible refine dn_new ?_ | with_reducible refine dn_parN ?_ | with_reducible refine dn_par ?_ | with_reducible refine dn_pair ?_ | with_reducible refine dn_raise ?_ | ((with_reducible apply dn_app); rfl) | with_reducible refine dn_item ?_ | with_reducible refine sq_set ?_ | with_reducible refine sq_pair ?_ | with_reducible refine sq_par ?_ | with_reducible refine sq_parN ?_ | with_reducible refine sq_new ?_ | with_reducible refine sq_item ?_ | ((with_reducible apply sq_app); rfl) | refine ⟨_, _, _, rfl, rfl, rfl, ?_⟩ | refine ⟨_, rfl, ?_⟩ | refine ⟨⟨_, rfl⟩, ?_⟩ | refine ⟨Nat.le_of_ble_eq_true rfl, ?_⟩)
            exact ⟨_, in_pair (xc c hc), rfl, rfl⟩
          · repeat (first | with_reducible refine ok_op ?_ | with_reducible refine ok_un ?_ | with_reducible refine ok_cb ?_ | with_reducible refine ok_cons ?_ | with_reducible refine ok_nil ?_ | with_reducible refine ok_giv ?_ | with_reducible refine ok_lst ?_ | with_reducible refine ok_tup ?_ | with_reducible refine ok_dic ?_ | with_reducible refine ok_bool ?_ | with_reducible refine ok_not ?_ | with_reducible refine ok_notV ?_ | with_reducible refine ok_sl ?_ | with_reducible refine ok_part ?_ | with_reducible refine ok_join ?_ | with_reducible refine ok_it ?_ | with_reducible refine ok_itA ?_ | with_reducible refine ok_call0 ?_ | with_reducible refine ok_callN ?_ | with_reducible refine ok_chain ?_ | ((with_reducible apply ok_var); rfl) | ((with_reducible apply ok_varL); rfl) | ((with_reducible apply ok_ixN); rfl) | ((with_reducible apply ok_ixM); rfl) | ((with_reducible apply ok_lenN); rfl) | ((with_reducible apply ok_lenM); rfl) | ((with_reducible apply ok_callY); rfl) | with_reducible refine dn_set ?_ | with_reducible refine dn_ret ?_ | with_reducible refine dn_retN ?_ | with_reducible refine dn_new ?_ | with_reducible refine dn_parN ?_ | with_reducible refine dn_par ?_ | with_reducible refine dn_pair ?_ | with_reducible refine dn_raise ?_ | ((with_reducible apply dn_app); rfl) | with_reducible refine dn_item ?_ | with_reducible refine sq_set ?_ | with_reducible refine sq_pair ?_ | with_reducible refine sq_par ?_ | with_reducible refine sq_parN ?_ | with_reducible refine sq_new ?_ | with_reducible refine sq_item ?_ | ((with_reducible apply sq_app); rfl) | refine ⟨_, _, _, rfl, rfl, rfl, ?_⟩ | refine ⟨_, rfl, ?_⟩ | refine ⟨⟨_, rfl⟩, ?_⟩ | refine ⟨Nat.le_of_ble_eq_true rfl, ?_⟩)
            have e : (x.cps.toList.map fun c => D.str ⟨#[c]⟩).map (fun d => match d with | .str ⟨⟨[c]⟩⟩ => D.bl (sgB c) | _ => .bl false) = (x.cps.toList.map fun c => D.str ⟨#[c]⟩).map fun d => D.bl (match d with | .str ⟨⟨[c]⟩⟩ => sgB c | _ => false) := by
              rw [List.map_map, List.map_map]
              rfl
            rw [e]
            refine ⟨_, all_bl, _, rfl, ?_⟩
            show _ = D.bl ((decide (1 ≤ x.length) && decide (x.length ≤ 10)) && x.cps.toList.all sgB)
            rw [decide_eq_true (show 1 ≤ x.length by omega), decide_eq_true (show x.length ≤ 10 by omega), List.all_map]
            rfl
      · have h1 := of_decide_eq_false h1
        repeat (first | with_reducible refine ok_op ?_ | with_reducible refine ok_un ?_ | with_reducible refine ok_cb ?_ | with_reducible refine ok_cons ?_ | with_reducible refine ok_nil ?_ | with_reducible refine ok_giv ?_ | with_reducible refine ok_lst ?_ | with_reducible refine ok_tup ?_ | with_reducible refine ok_dic ?_ | with_reducible refine ok_bool ?_ | with_reducible refine ok_not ?_ | with_reducible refine ok_notV ?_ | with_reducible refine ok_sl ?_ | with_reducible refine ok_part ?_ | with_reducible refine ok_join ?_ | with_reducible refine ok_it ?_ | with_reducible refine ok_itA ?_ | with_reducible refine ok_call0 ?_ | with_reducible refine ok_callN ?_ | with_reducible refine ok_chain ?_ | ((with_reducible apply ok_var); rfl) | ((with_reducible apply ok_varL); rfl) | ((with_reducible apply ok_ixN); rfl) | ((with_reducible apply ok_ixM); rfl) | ((with_reducible apply ok_lenN); rfl) | ((with_reducible apply ok_lenM); rfl) | ((with_reducible apply ok_callY); rfl) | with_reducible refine dn_set ?_ | with_reducible refine dn_ret ?_ | with_reducible refine dn_retN ?_ | with_reducible refine dn_new ?_ | with_reducible refine dn_parN ?_ | with_reducible refine dn_par ?_ | with_reducible refine dn_pair ?_ | with_reducible refine dn_raise ?_ | ((with_reducible apply dn_app); rfl) | with_reducible refine dn_item ?_ | with_reducible refine sq_set ?_ | with_reducible refine sq_pair ?_ | with_reducible refine sq_par ?_ | with_reducible refine sq_parN ?_ | with_reducible refine sq_new ?_ | with_reducible refine sq_item ?_ | ((with_reducible apply sq_app); rfl) | refine ⟨_, _, _, rfl, rfl, rfl, ?_⟩ | refine ⟨_, rfl, ?_⟩ | refine ⟨⟨_, rfl⟩, ?_⟩ | refine ⟨Nat.le_of_ble_eq_true rfl, ?_⟩)
        refine ⟨(fun z => nomatch z), fun _ => ⟨_, rfl, ?_⟩⟩
        show D.bl false = D.bl ((decide (1 ≤ x.length) && decide (x.length ≤ 10)) && x.cps.toList.all sgB)
        rw [decide_eq_false (show ¬ 1 ≤ x.length by omega), Bool.false_and, Bool.false_and]
  obtain ⟨r, e, rfl⟩ := key
  exact e
end L02
namespace L02
open PySem L2 Wd
def lenD : D → Nat
  | .str x => x.length
  | _ => 0
def hdL : List D → Nat
  | [] => 0
  | d :: _ => lenD d
def isS : D → Bool := D.kStr
def oB : D → Bool
  | .str x => decide (111 ∈ x.cps.toList)
  | _ => false
def prL (ds : List D) : Bool := (decide (1 ≤ ds.length) && decide (ds.length ≤ 10)) && (ds.all rowB && ds.all fun d => decide (lenD d = hdL ds))
def chr (j : Nat) : D → Nat
  | .str x => (x.cps.toList[j]?).getD 0
  | _ => 0
def colB (ds : List D) (j : Nat) : Bool := decide (111 ∈ ds.map (chr j))
def lbL (ds : List D) : Bool := prL ds && (ds.all oB && (List.range (hdL ds)).all (colB ds))
def lB : D → Bool
  | .tup ds => lbL ds
  | _ => false
theorem row_str {d : D} (h : rowB d = true) : ∃ x : Str, d = .str x ∧ 1 ≤ x.length ∧ x.length ≤ 10 ∧ ∀ c ∈ x.cps.toList, sgB c = true := by
  cases d <;> first | (cases h; done) | skip
  rename_i x
  have h' : ((decide (1 ≤ x.length) && decide (x.length ≤ 10)) && x.cps.toList.all sgB) = true := h
  simp only [Bool.and_eq_true, decide_eq_true_eq, List.all_eq_true] at h'
  exact ⟨x, rfl, h'.1.1, h'.1.2, h'.2⟩
theorem sg_lt {c : Nat} (h : sgB c = true) : c < 1114112 := by
  unfold sgB at h
  simp only [Bool.or_eq_true, decide_eq_true_eq] at h
  omega
theorem ix_T0 {d : D} {r : List D} : ixF (.tup (d :: r)) (.int 0) = some d := by
  show atI (d :: r) 0 = _
  unfold atI ixN
  rw [if_pos (by decide), if_pos (by simp)]
  rfl
theorem len_t {ds : List D} : lenF [.tup ds] = some (.int (ds.length : Int)) := rfl
/-- 1 <= len(v) <= 10 of the slot 0 -/
theorem chain_len {ε : Sl} {i : Nat} {d : D} {n : Nat} {P : D → Sl → Prop} (e : ε[i]? = some (.dat d)) (hl : lenF [d] = some (.int (n : Int))) (h : P (.bl (decide (1 ≤ n) && decide (n ≤ 10))) ε) : Ok (mChain leF leF (giv (.int 1)) (mLenN i) (giv (.int 10))) ε P := by
  refine ok_chain (ok_giv (ok_lenN e ⟨_, hl, _, le_ii, fun h1 => ok_giv ⟨_, le_ii, ?_⟩, fun h1 => ?_⟩))
  · have h1 := of_decide_eq_true h1
    rw [decide_eq_true (show 1 ≤ n by omega), Bool.true_and] at h
    by_cases q : n ≤ 10
    · rw [decide_eq_true q] at h; rw [decide_eq_true (by omega)]; exact h
    · rw [decide_eq_false q] at h; rw [decide_eq_false (by omega)]; exact h
  · have h1 := of_decide_eq_false h1
    rw [decide_eq_false (show ¬ 1 ≤ n by omega), Bool.false_and] at h
    exact h
theorem are_rows_ok {A : Adr} {v : D} (b : Bd 3 v) : m__are_rows A [v] = some (.ok (.bl (match v with | .tup ds => prL ds | _ => false))) := by
  have key : ∃ r, m__are_rows A [v] = some (.ok r) ∧ r = .bl (match v with | .tup ds => prL ds | _ => false) := by
    unfold m__are_rows
    refine fnX rfl (P := fun r => r = .bl (match v with | .tup ds => prL ds | _ => false)) ?_
    refine dn_seq (dn_if (ok_or ?_))
    repeat (first | with_reducible refine ok_op ?_ | with_reducible refine ok_un ?_ | with_reducible refine ok_cb ?_ | with_reducible refine ok_cons ?_ | with_reducible refine ok_nil ?_ | with_reducible refine ok_giv ?_ | with_reducible refine ok_lst ?_ | with_reducible refine ok_tup ?_ | with_reducible refine ok_dic ?_ | with_reducible refine ok_bool ?_ | with_reducible refine ok_not ?_ | with_reducible refine ok_notV ?_ | with_reducible refine ok_sl ?_ | with_reducible refine ok_part ?_ | with_reducible refine ok_join ?_ | with_reducible refine ok_it ?_ | with_reducible refine ok_itA ?_ | with_reducible refine ok_call0 ?_ | with_reducible refine ok_callN ?_ | with_reducible refine ok_chain ?_ | ((with_reducible apply ok_var); rfl) | ((with_reducible apply ok_varL); rfl) | ((with_reducible apply ok_ixN); rfl) | ((with_reducible apply ok_ixM); rfl) | ((with_reducible apply ok_lenN); rfl) | ((with_reducible apply ok_lenM); rfl) | ((with_reducible apply ok_callY); rfl) | with_reducible refine dn_set ?_ | with_reducible refine dn_ret ?_ | with_reducible refine dn_retN ?_ | with_reducible refine dn_new ?_ | with_reducible refine dn_parN ?_ | with_reducible refine dn_par ?_ | with_reducible refine dn_pair ?_ | with_reducible refine dn_raise ?_ | ((with_reducible apply dn_app); rfl) | with_reducible refine dn_item ?_ | with_reducible refine sq_set ?_ | with_reducible refine sq_pair ?_ | with_reducible refine sq_par ?_ | with_reducible refine sq_parN ?_ | with_reducible refine sq_new ?_ | with_reducible refine sq_item ?_ | ((with_reducible apply sq_app); rfl) | refine ⟨_, _, _, rfl, rfl, rfl, ?_⟩ | refine ⟨_, rfl, ?_⟩ | refine ⟨⟨_, rfl⟩, ?_⟩ | refine ⟨Nat.le_of_ble_eq_true rfl, ?_⟩)
    refine ⟨_, is_ty b, _, rfl, fun h => ⟨fun _ => ?_, fun z => (nomatch z)⟩, fun h => ?_⟩
    · repeat (first | with_reducible refine ok_op ?_ | with_reducible refine ok_un ?_ | with_reducible refine ok_cb ?_ | with_reducible refine ok_cons ?_ | with_reducible refine ok_nil ?_ | with_reducible refine ok_giv ?_ | with_reducible refine ok_lst ?_ | with_reducible refine ok_tup ?_ | with_reducible refine ok_dic ?_ | with_reducible refine ok_bool ?_ | with_reducible refine ok_not ?_ | with_reducible refine ok_notV ?_ | with_reducible refine ok_sl ?_ | with_reducible refine ok_part ?_ | with_reducible refine ok_join ?_ | with_reducible refine ok_it ?_ | with_reducible refine ok_itA ?_ | with_reducible refine ok_call0 ?_ | with_reducible refine ok_callN ?_ | with_reducible refine ok_chain ?_ | ((with_reducible apply ok_var); rfl) | ((with_reducible apply ok_varL); rfl) | ((with_reducible apply ok_ixN); rfl) | ((with_reducible apply ok_ixM); rfl) | ((with_reducible apply ok_lenN); rfl) | ((with_reducible apply ok_lenM); rfl) | ((with_reducible apply ok_callY); rfl) | with_reducible refine dn_set ?_ | with_reducible refine dn_ret ?_ | with_reducible refine dn_retN ?_ | with_reducible refine dn_new ?_ | with_reducible refine dn_parN ?_ | with_reducible refine dn_par ?_ | with_reducible refine dn_pair ?_ | with_reducible refine dn_raise ?_ | ((with_reducible apply dn_app); rfl) | with_reducible refine dn_item ?_ | with_reducible refine sq_set ?_ | with_reducible refine sq_pair ?_ | with_reducible refine sq_par ?_ | with_reducible refine sq_parN ?_ | with_reducible refine sq_new ?_ | with_reducible refine sq_item ?_ | ((with_reducible apply sq_app); rfl) | refine ⟨_, _, _, rfl, rfl, rfl, ?_⟩ | refine ⟨_, rfl, ?_⟩ | refine ⟨⟨_, rfl⟩, ?_⟩ | refine ⟨Nat.le_of_ble_eq_true rfl, ?_⟩)
      refine ⟨(fun z => nomatch z), fun _ => ⟨_, rfl, ?_⟩⟩
      cases v <;> first | rfl | cases h
    · cases v <;> first | (cases h; done) | skip
      rename_i ds
      have bd : ∀ d ∈ ds, Bd 2 d := by cases b with | tup _ _ _ h => exact h
      refine ok_not (ok_bool (chain_len rfl len_t ⟨_, rfl, fun h1 => ?_, fun h1 => dn_nx ⟨fun _ => ?_, fun z => absurd rfl z⟩⟩))
      · repeat (first | with_reducible refine ok_op ?_ | with_reducible refine ok_un ?_ | with_reducible refine ok_cb ?_ | with_reducible refine ok_cons ?_ | with_reducible refine ok_nil ?_ | with_reducible refine ok_giv ?_ | with_reducible refine ok_lst ?_ | with_reducible refine ok_tup ?_ | with_reducible refine ok_dic ?_ | with_reducible refine ok_bool ?_ | with_reducible refine ok_not ?_ | with_reducible refine ok_notV ?_ | with_reducible refine ok_sl ?_ | with_reducible refine ok_part ?_ | with_reducible refine ok_join ?_ | with_reducible refine ok_it ?_ | with_reducible refine ok_itA ?_ | with_reducible refine ok_call0 ?_ | with_reducible refine ok_callN ?_ | with_reducible refine ok_chain ?_ | ((with_reducible apply ok_var); rfl) | ((with_reducible apply ok_varL); rfl) | ((with_reducible apply ok_ixN); rfl) | ((with_reducible apply ok_ixM); rfl) | ((with_reducible apply ok_lenN); rfl) | ((with_reducible apply ok_lenM); rfl) | ((with_reducible apply ok_callY); rfl) | with_reducible refine dn_set ?_ | with_reducible refine dn_ret ?_ | with_reducible refine dn_retN ?_ | with_reducible refine dn_new ?_ | with_reducible refine dn_parN ?_ | with_reducible refine dn_par ?_ | with_reducible refine dn_pair ?_ | with_reducible refine dn_raise ?_ | ((with_reducible apply dn_app); rfl) | with_reducible refine dn_item ?_ | with_reducible refine sq_set ?_ | with_reducible refine sq_pair ?_ | with_reducible refine sq_par ?_ | with_reducible refine sq_parN ?_ | with_reducible refine sq_new ?_ | with_reducible refine sq_item ?_ | ((with_reducible apply sq_app); rfl) | refine ⟨_, _, _, rfl, rfl, rfl, ?_⟩ | refine ⟨_, rfl, ?_⟩ | refine ⟨⟨_, rfl⟩, ?_⟩ | refine ⟨Nat.le_of_ble_eq_true rfl, ?_⟩)
        refine ⟨(fun z => nomatch z), fun _ => ⟨_, rfl, ?_⟩⟩
        rw [Bool.not_eq_true'] at h1
        show _ = D.bl (prL ds)
        unfold prL
        rw [h1, Bool.false_and]
      · rw [Bool.not_eq_false'] at h1
        have h2 := h1
        simp only [Bool.and_eq_true, decide_eq_true_eq] at h2
        refine dn_ret (ok_andV ?_)
        repeat (first | with_reducible refine ok_op ?_ | with_reducible refine ok_un ?_ | with_reducible refine ok_cb ?_ | with_reducible refine ok_cons ?_ | with_reducible refine ok_nil ?_ | with_reducible refine ok_giv ?_ | with_reducible refine ok_lst ?_ | with_reducible refine ok_tup ?_ | with_reducible refine ok_dic ?_ | with_reducible refine ok_bool ?_ | with_reducible refine ok_not ?_ | with_reducible refine ok_notV ?_ | with_reducible refine ok_sl ?_ | with_reducible refine ok_part ?_ | with_reducible refine ok_join ?_ | with_reducible refine ok_it ?_ | with_reducible refine ok_itA ?_ | with_reducible refine ok_call0 ?_ | with_reducible refine ok_callN ?_ | with_reducible refine ok_chain ?_ | ((with_reducible apply ok_var); rfl) | ((with_reducible apply ok_varL); rfl) | ((with_reducible apply ok_ixN); rfl) | ((with_reducible apply ok_ixM); rfl) | ((with_reducible apply ok_lenN); rfl) | ((with_reducible apply ok_lenM); rfl) | ((with_reducible apply ok_callY); rfl) | with_reducible refine dn_set ?_ | with_reducible refine dn_ret ?_ | with_reducible refine dn_retN ?_ | with_reducible refine dn_new ?_ | with_reducible refine dn_parN ?_ | with_reducible refine dn_par ?_ | with_reducible refine dn_pair ?_ | with_reducible refine dn_raise ?_ | ((with_reducible apply dn_app); rfl) | with_reducible refine dn_item ?_ | with_reducible refine sq_set ?_ | with_reducible refine sq_pair ?_ | with_reducible refine sq_par ?_ | with_reducible refine sq_parN ?_ | with_reducible refine sq_new ?_ | with_reducible refine sq_item ?_ | ((with_reducible apply sq_app); rfl) | refine ⟨_, _, _, rfl, rfl, rfl, ?_⟩ | refine ⟨_, rfl, ?_⟩ | refine ⟨⟨_, rfl⟩, ?_⟩ | refine ⟨Nat.le_of_ble_eq_true rfl, ?_⟩)
        refine ok_lc (fun d => .bl (rowB d)) ?_
        repeat (first | with_reducible refine ok_op ?_ | with_reducible refine ok_un ?_ | with_reducible refine ok_cb ?_ | with_reducible refine ok_cons ?_ | with_reducible refine ok_nil ?_ | with_reducible refine ok_giv ?_ | with_reducible refine ok_lst ?_ | with_reducible refine ok_tup ?_ | with_reducible refine ok_dic ?_ | with_reducible refine ok_bool ?_ | with_reducible refine ok_not ?_ | with_reducible refine ok_notV ?_ | with_reducible refine ok_sl ?_ | with_reducible refine ok_part ?_ | with_reducible refine ok_join ?_ | with_reducible refine ok_it ?_ | with_reducible refine ok_itA ?_ | with_reducible refine ok_call0 ?_ | with_reducible refine ok_callN ?_ | with_reducible refine ok_chain ?_ | ((with_reducible apply ok_var); rfl) | ((with_reducible apply ok_varL); rfl) | ((with_reducible apply ok_ixN); rfl) | ((with_reducible apply ok_ixM); rfl) | ((with_reducible apply ok_lenN); rfl) | ((with_reducible apply ok_lenM); rfl) | ((with_reducible apply ok_callY); rfl) | with_reducible refine dn_set ?_ | with_reducible refine dn_ret ?_ | with_reducible refine dn_retN ?_ | with_reducible refine dn_new ?_ | with_reducible refine dn_parN ?_ | with_reducible refine dn_par ?_ | with_reducible refine dn_pair ?_ | with_reducible refine dn_raise ?_ | ((with_reducible apply dn_app); rfl) | with_reducible refine dn_item ?_ | with_reducible refine sq_set ?_ | with_reducible refine sq_pair ?_ | with_reducible refine sq_par ?_ | with_reducible refine sq_parN ?_ | with_reducible refine sq_new ?_ | with_reducible refine sq_item ?_ | ((with_reducible apply sq_app); rfl) | refine ⟨_, _, _, rfl, rfl, rfl, ?_⟩ | refine ⟨_, rfl, ?_⟩ | refine ⟨⟨_, rfl⟩, ?_⟩ | refine ⟨Nat.le_of_ble_eq_true rfl, ?_⟩)
        refine ⟨by omega, fun d hd => ⟨_, rfl, ?_⟩, ?_⟩
        · repeat (first | with_reducible refine ok_op ?_ | with_reducible refine ok_un ?_ | with_reducible refine ok_cb ?_ | with_reducible refine ok_cons ?_ | with_reducible refine ok_nil ?_ | with_reducible refine ok_giv ?_ | with_reducible refine ok_lst ?_ | with_reducible refine ok_tup ?_ | with_reducible refine ok_dic ?_ | with_reducible refine ok_bool ?_ | with_reducible refine ok_not ?_ | with_reducible refine ok_notV ?_ | with_reducible refine ok_sl ?_ | with_reducible refine ok_part ?_ | with_reducible refine ok_join ?_ | with_reducible refine ok_it ?_ | with_reducible refine ok_itA ?_ | with_reducible refine ok_call0 ?_ | with_reducible refine ok_callN ?_ | with_reducible refine ok_chain ?_ | ((with_reducible apply ok_var); rfl) | ((with_reducible apply ok_varL); rfl) | ((with_reducible apply ok_ixN); rfl) | ((with_reducible apply ok_ixM); rfl) | ((with_reducible apply ok_lenN); rfl) | ((with_reducible apply ok_lenM); rfl) | ((with_reducible apply ok_callY); rfl) | with_reducible refine dn_set ?_ | with_reducible refine dn_ret ?_ | with_reducible refine dn_retN ?_ | with_reducible refine dn_new ?_ | with_reducible refine dn_parN ?_ | with_reducible refine dn_par ?_ | with_reducible refine dn_pair ?_ | with_reducible refine dn_raise ?_ | ((with_reducible apply dn_app); rfl) | with_reducible refine dn_item ?_ | with_reducible refine sq_set ?_ | with_reducible refine sq_pair ?_ | with_reducible refine sq_par ?_ | with_reducible refine sq_parN ?_ | with_reducible refine sq_new ?_ | with_reducible refine sq_item ?_ | ((with_reducible apply sq_app); rfl) | refine ⟨_, _, _, rfl, rfl, rfl, ?_⟩ | refine ⟨_, rfl, ?_⟩ | refine ⟨⟨_, rfl⟩, ?_⟩ | refine ⟨Nat.le_of_ble_eq_true rfl, ?_⟩)
          exact ⟨_, is_row_ok (bd d hd), rfl, rfl⟩
        · repeat (first | with_reducible refine ok_op ?_ | with_reducible refine ok_un ?_ | with_reducible refine ok_cb ?_ | with_reducible refine ok_cons ?_ | with_reducible refine ok_nil ?_ | with_reducible refine ok_giv ?_ | with_reducible refine ok_lst ?_ | with_reducible refine ok_tup ?_ | with_reducible refine ok_dic ?_ | with_reducible refine ok_bool ?_ | with_reducible refine ok_not ?_ | with_reducible refine ok_notV ?_ | with_reducible refine ok_sl ?_ | with_reducible refine ok_part ?_ | with_reducible refine ok_join ?_ | with_reducible refine ok_it ?_ | with_reducible refine ok_itA ?_ | with_reducible refine ok_call0 ?_ | with_reducible refine ok_callN ?_ | with_reducible refine ok_chain ?_ | ((with_reducible apply ok_var); rfl) | ((with_reducible apply ok_varL); rfl) | ((with_reducible apply ok_ixN); rfl) | ((with_reducible apply ok_ixM); rfl) | ((with_reducible apply ok_lenN); rfl) | ((with_reducible apply ok_lenM); rfl) | ((with_reducible apply ok_callY); rfl) | with_reducible refine dn_set ?_ | with_reducible refine dn_ret ?_ | with_reducible refine dn_retN ?_ | with_reducible refine dn_new ?_ | with_reducible refine dn_parN ?_ | with_reducible refine dn_par ?_ | with_reducible refine dn_pair ?_ | with_reducible refine dn_raise ?_ | ((with_reducible apply dn_app); rfl) | with_reducible refine dn_item ?_ | with_reducible refine sq_set ?_ | with_reducible refine sq_pair ?_ | with_reducible refine sq_par ?_ | with_reducible refine sq_parN ?_ | with_reducible refine sq_new ?_ | with_reducible refine sq_item ?_ | ((with_reducible apply sq_app); rfl) | refine ⟨_, _, _, rfl, rfl, rfl, ?_⟩ | refine ⟨_, rfl, ?_⟩ | refine ⟨⟨_, rfl⟩, ?_⟩ | refine ⟨Nat.le_of_ble_eq_true rfl, ?_⟩)
          refine ⟨_, all_bl, _, rfl, fun h3 => ?_, fun h3 => ⟨_, rfl, ?_⟩⟩
          · have str : ∀ d ∈ ds, ∃ x : Str, d = .str x ∧ 1 ≤ x.length ∧ x.length ≤ 10 ∧ ∀ c ∈ x.cps.toList, sgB c = true := fun d hd => row_str (List.all_eq_true.mp h3 d hd)
            repeat (first | with_reducible refine ok_op ?_ | with_reducible refine ok_un ?_ | with_reducible refine ok_cb ?_ | with_reducible refine ok_cons ?_ | with_reducible refine ok_nil ?_ | with_reducible refine ok_giv ?_ | with_reducible refine ok_lst ?_ | with_reducible refine ok_tup ?_ | with_reducible refine ok_dic ?_ | with_reducible refine ok_bool ?_ | with_reducible refine ok_not ?_ | with_reducible refine ok_notV ?_ | with_reducible refine ok_sl ?_ | with_reducible refine ok_part ?_ | with_reducible refine ok_join ?_ | with_reducible refine ok_it ?_ | with_reducible refine ok_itA ?_ | with_reducible refine ok_call0 ?_ | with_reducible refine ok_callN ?_ | with_reducible refine ok_chain ?_ | ((with_reducible apply ok_var); rfl) | ((with_reducible apply ok_varL); rfl) | ((with_reducible apply ok_ixN); rfl) | ((with_reducible apply ok_ixM); rfl) | ((with_reducible apply ok_lenN); rfl) | ((with_reducible apply ok_lenM); rfl) | ((with_reducible apply ok_callY); rfl) | with_reducible refine dn_set ?_ | with_reducible refine dn_ret ?_ | with_reducible refine dn_retN ?_ | with_reducible refine dn_new ?_ | with_reducible refine dn_parN ?_ | with_reducible refine dn_par ?_ | with_reducible refine dn_pair ?_ | with_reducible refine dn_raise ?_ | ((with_reducible apply dn_app); rfl) | with_reducible refine dn_item ?_ | with_reducible refine sq_set ?_ | with_reducible refine sq_pair ?_ | with_reducible refine sq_par ?_ | with_reducible refine sq_parN ?_ | with_reducible refine sq_new ?_ | with_reducible refine sq_item ?_ | ((with_reducible apply sq_app); rfl) | refine ⟨_, _, _, rfl, rfl, rfl, ?_⟩ | refine ⟨_, rfl, ?_⟩ | refine ⟨⟨_, rfl⟩, ?_⟩ | refine ⟨Nat.le_of_ble_eq_true rfl, ?_⟩)
            refine ok_lc (fun d => .bl (decide (lenD d = hdL ds))) ?_
            repeat (first | with_reducible refine ok_op ?_ | with_reducible refine ok_un ?_ | with_reducible refine ok_cb ?_ | with_reducible refine ok_cons ?_ | with_reducible refine ok_nil ?_ | with_reducible refine ok_giv ?_ | with_reducible refine ok_lst ?_ | with_reducible refine ok_tup ?_ | with_reducible refine ok_dic ?_ | with_reducible refine ok_bool ?_ | with_reducible refine ok_not ?_ | with_reducible refine ok_notV ?_ | with_reducible refine ok_sl ?_ | with_reducible refine ok_part ?_ | with_reducible refine ok_join ?_ | with_reducible refine ok_it ?_ | with_reducible refine ok_itA ?_ | with_reducible refine ok_call0 ?_ | with_reducible refine ok_callN ?_ | with_reducible refine ok_chain ?_ | ((with_reducible apply ok_var); rfl) | ((with_reducible apply ok_varL); rfl) | ((with_reducible apply ok_ixN); rfl) | ((with_reducible apply ok_ixM); rfl) | ((with_reducible apply ok_lenN); rfl) | ((with_reducible apply ok_lenM); rfl) | ((with_reducible apply ok_callY); rfl) | with_reducible refine dn_set ?_ | with_reducible refine dn_ret ?_ | with_reducible refine dn_retN ?_ | with_reducible refine dn_new ?_ | with_reducible refine dn_parN ?_ | with_reducible refine dn_par ?_ | with_reducible refine dn_pair ?_ | with_reducible refine dn_raise ?_ | ((with_reducible apply dn_app); rfl) | with_reducible refine dn_item ?_ | with_reducible refine sq_set ?_ | with_reducible refine sq_pair ?_ | with_reducible refine sq_par ?_ | with_reducible refine sq_parN ?_ | with_reducible refine sq_new ?_ | with_reducible refine sq_item ?_ | ((with_reducible apply sq_app); rfl) | refine ⟨_, _, _, rfl, rfl, rfl, ?_⟩ | refine ⟨_, rfl, ?_⟩ | refine ⟨⟨_, rfl⟩, ?_⟩ | refine ⟨Nat.le_of_ble_eq_true rfl, ?_⟩)
            refine ⟨by omega, fun d hd => ⟨_, rfl, ?_⟩, ?_⟩
            · obtain ⟨x, rfl, x1, x2, _⟩ := str d hd
              cases ds with
              | nil => cases hd
              | cons d0 r =>
                obtain ⟨y, rfl, y1, y2, _⟩ := str d0 (List.mem_cons_self ..)
                repeat (first | with_reducible refine ok_op ?_ | with_reducible refine ok_un ?_ | with_reducible refine ok_cb ?_ | with_reducible refine ok_cons ?_ | with_reducible refine ok_nil ?_ | with_reducible refine ok_giv ?_ | with_reducible refine ok_lst ?_ | with_reducible refine ok_tup ?_ | with_reducible refine ok_dic ?_ | with_reducible refine ok_bool ?_ | with_reducible refine ok_not ?_ | with_reducible refine ok_notV ?_ | with_reducible refine ok_sl ?_ | with_reducible refine ok_part ?_ | with_reducible refine ok_join ?_ | with_reducible refine ok_it ?_ | with_reducible refine ok_itA ?_ | with_reducible refine ok_call0 ?_ | with_reducible refine ok_callN ?_ | with_reducible refine ok_chain ?_ | ((with_reducible apply ok_var); rfl) | ((with_reducible apply ok_varL); rfl) | ((with_reducible apply ok_ixN); rfl) | ((with_reducible apply ok_ixM); rfl) | ((with_reducible apply ok_lenN); rfl) | ((with_reducible apply ok_lenM); rfl) | ((with_reducible apply ok_callY); rfl) | with_reducible refine dn_set ?_ | with_reducible refine dn_ret ?_ | with_reducible refine dn_retN ?_ | with_reducible refine dn_new ?_ | with_reducible refine dn_parN ?_ | with_reducible refine dn_par ?_ | with_reducible refine dn_pair ?_ | with_reducible refine dn_raise ?_ | ((with_reducible apply dn_app); rfl) | with_reducible refine dn_item ?_ | with_reducible refine sq_set ?_ | with_reducible refine sq_pair ?_ | with_reducible refine sq_par ?_ | with_reducible refine sq_parN ?_ | with_reducible refine sq_new ?_ | with_reducible refine sq_item ?_ | ((with_reducible apply sq_app); rfl) | refine ⟨_, _, _, rfl, rfl, rfl, ?_⟩ | refine ⟨_, rfl, ?_⟩ | refine ⟨⟨_, rfl⟩, ?_⟩ | refine ⟨Nat.le_of_ble_eq_true rfl, ?_⟩)
                refine ⟨_, len_str (by omega), ?_⟩
                repeat (first | with_reducible refine ok_op ?_ | with_reducible refine ok_un ?_ | with_reducible refine ok_cb ?_ | with_reducible refine ok_cons ?_ | with_reducible refine ok_nil ?_ | with_reducible refine ok_giv ?_ | with_reducible refine ok_lst ?_ | with_reducible refine ok_tup ?_ | with_reducible refine ok_dic ?_ | with_reducible refine ok_bool ?_ | with_reducible refine ok_not ?_ | with_reducible refine ok_notV ?_ | with_reducible refine ok_sl ?_ | with_reducible refine ok_part ?_ | with_reducible refine ok_join ?_ | with_reducible refine ok_it ?_ | with_reducible refine ok_itA ?_ | with_reducible refine ok_call0 ?_ | with_reducible refine ok_callN ?_ | with_reducible refine ok_chain ?_ | ((with_reducible apply ok_var); rfl) | ((with_reducible apply ok_varL); rfl) | ((with_reducible apply ok_ixN); rfl) | ((with_reducible apply ok_ixM); rfl) | ((with_reducible apply ok_lenN); rfl) | ((with_reducible apply ok_lenM); rfl) | ((with_reducible apply ok_callY); rfl) | with_reducible refine dn_set ?_ | with_reducible refine dn_ret ?_ | with_reducible refine dn_retN ?_ | with_reducible refine dn_new ?_ | with_reducible refine dn_parN ?_ | with_reducible refine dn_par ?_ | with_reducible refine dn_pair ?_ | with_reducible refine dn_raise ?_ | ((with_reducible apply dn_app); rfl) | with_reducible refine dn_item ?_ | with_reducible refine sq_set ?_ | with_reducible refine sq_pair ?_ | with_reducible refine sq_par ?_ | with_reducible refine sq_parN ?_ | with_reducible refine sq_new ?_ | with_reducible refine sq_item ?_ | ((with_reducible apply sq_app); rfl) | refine ⟨_, _, _, rfl, rfl, rfl, ?_⟩ | refine ⟨_, rfl, ?_⟩ | refine ⟨⟨_, rfl⟩, ?_⟩ | refine ⟨Nat.le_of_ble_eq_true rfl, ?_⟩)
                refine ⟨_, ix_T0, ?_⟩
                repeat (first | with_reducible refine ok_op ?_ | with_reducible refine ok_un ?_ | with_reducible refine ok_cb ?_ | with_reducible refine ok_cons ?_ | with_reducible refine ok_nil ?_ | with_reducible refine ok_giv ?_ | with_reducible refine ok_lst ?_ | with_reducible refine ok_tup ?_ | with_reducible refine ok_dic ?_ | with_reducible refine ok_bool ?_ | with_reducible refine ok_not ?_ | with_reducible refine ok_notV ?_ | with_reducible refine ok_sl ?_ | with_reducible refine ok_part ?_ | with_reducible refine ok_join ?_ | with_reducible refine ok_it ?_ | with_reducible refine ok_itA ?_ | with_reducible refine ok_call0 ?_ | with_reducible refine ok_callN ?_ | with_reducible refine ok_chain ?_ | ((with_reducible apply ok_var); rfl) | ((with_reducible apply ok_varL); rfl) | ((with_reducible apply ok_ixN); rfl) | ((with_reducible apply ok_ixM); rfl) | ((with_reducible apply ok_lenN); rfl) | ((with_reducible apply ok_lenM); rfl) | ((with_reducible apply ok_callY); rfl) | with_reducible refine dn_set ?_ | with_reducible refine dn_ret ?_ | with_reducible refine dn_retN ?_ | with_reducible refine dn_new ?_ | with_reducible refine dn_parN ?_ | with_reducible refine dn_par ?_ | with_reducible refine dn_pair ?_ | with_reducible refine dn_raise ?_ | ((with_reducible apply dn_app); rfl) | with_reducible refine dn_item ?_ | with_reducible refine sq_set ?_ | with_reducible refine sq_pair ?_ | with_reducible refine sq_par ?_ | with_reducible refine sq_parN ?_ | with_reducible refine sq_new ?_ | with_reducible refine sq_item ?_ | ((with_reducible apply sq_app); rfl) | refine ⟨_, _, _, rfl, rfl, rfl, ?_⟩ | refine ⟨_, rfl, ?_⟩ | refine ⟨⟨_, rfl⟩, ?_⟩ | refine ⟨Nat.le_of_ble_eq_true rfl, ?_⟩)
                refine ⟨_, len_str (by omega), ?_⟩
                refine ⟨_, rfl, ?_, rfl⟩
                show D.bl (decide ((x.length : Int) = (y.length : Int))) = D.bl (decide (x.length = y.length))
                congr 1
                by_cases q : x.length = y.length
                · rw [decide_eq_true q, decide_eq_true (by omega)]
                · rw [decide_eq_false q, decide_eq_false (by omega)]
            · repeat (first | with_reducible refine ok_op ?_ | with_reducible refine ok_un ?_ | with_reducible refine ok_cb ?_ | with_reducible refine ok_cons ?_ | with_reducible refine ok_nil ?_ | with_reducible refine ok_giv ?_ | with_reducible refine ok_lst ?_ | with_reducible refine ok_tup ?_ | with_reducible refine ok_dic ?_ | with_reducible refine ok_bool ?_ | with_reducible refine ok_not ?_ | with_reducible refine ok_notV ?_ | with_reducible refine ok_sl ?_ | with_reducible refine ok_part ?_ | with_reducible refine ok_join ?_ | with_reducible refine ok_it ?_ | with_reducible refine ok_itA ?_ | with_reducible refine ok_call0 ?_ | with_reducible refine ok_callN ?_ | with_reducible refine ok_chain ?_ | ((with_reducible apply ok_var); rfl) | ((with_reducible apply ok_varL); rfl) | ((with_reducible apply ok_ixN); rfl) | ((with_reducible apply ok_ixM); rfl) | ((with_reducible apply ok_lenN); rfl) | ((with_reducible apply ok_lenM); rfl) | ((with_reducible apply ok_callY); rfl) | with_reducible refine dn_set ?_ | with_reducible refine dn_ret ?_ | with_reducible refine dn_retN ?_ | with_reducible refine dn_new ?_ | with_reducible refine dn_parN ?_ | with_reducible refine dn_par ?_ | with_reducible refine dn_pair ?_ | with_reducible refine dn_raise ?_ | ((with_reducible apply dn_app); rfl) | with_reducible refine dn_item ?_ | with_reducible refine sq_set ?_ | with_reducible refine sq_pair ?_ | with_reducible refine sq_par ?_ | with_reducible refine sq_parN ?_ | with_reducible refine sq_new ?_ | with_reducible refine sq_item ?_ | ((with_reducible apply sq_app); rfl) | refine ⟨_, _, _, rfl, rfl, rfl, ?_⟩ | refine ⟨_, rfl, ?_⟩ | refine ⟨⟨_, rfl⟩, ?_⟩ | refine ⟨Nat.le_of_ble_eq_true rfl, ?_⟩)
              refine ⟨_, all_bl, _, rfl, ?_⟩
              show _ = D.bl (prL ds)
              unfold prL
              rw [h1, h3, Bool.true_and, Bool.true_and]
          · show D.bl false = D.bl (prL ds)
            unfold prL
            rw [h3, Bool.false_and, Bool.and_false]
  obtain ⟨r, e, rfl⟩ := key
  exact e
/-- all of them have a dot -/
theorem none_ok {A : Adr} {ds : List D} (h : ∀ d ∈ ds, ∃ x : Str, d = .str x) (hl : ds.length ≤ 1000) : m__none_is_empty A [.tup ds] = some (.ok (.bl (ds.all oB))) := by
  have key : ∃ r, m__none_is_empty A [.tup ds] = some (.ok r) ∧ r = .bl (ds.all oB) := by
    unfold m__none_is_empty
    refine fnX rfl (P := fun r => r = .bl (ds.all oB)) ?_
    repeat (first | with_reducible refine ok_op ?_ | with_reducible refine ok_un ?_ | with_reducible refine ok_cb ?_ | with_reducible refine ok_cons ?_ | with_reducible refine ok_nil ?_ | with_reducible refine ok_giv ?_ | with_reducible refine ok_lst ?_ | with_reducible refine ok_tup ?_ | with_reducible refine ok_dic ?_ | with_reducible refine ok_bool ?_ | with_reducible refine ok_not ?_ | with_reducible refine ok_notV ?_ | with_reducible refine ok_sl ?_ | with_reducible refine ok_part ?_ | with_reducible refine ok_join ?_ | with_reducible refine ok_it ?_ | with_reducible refine ok_itA ?_ | with_reducible refine ok_call0 ?_ | with_reducible refine ok_callN ?_ | with_reducible refine ok_chain ?_ | ((with_reducible apply ok_var); rfl) | ((with_reducible apply ok_varL); rfl) | ((with_reducible apply ok_ixN); rfl) | ((with_reducible apply ok_ixM); rfl) | ((with_reducible apply ok_lenN); rfl) | ((with_reducible apply ok_lenM); rfl) | ((with_reducible apply ok_callY); rfl) | with_reducible refine dn_set ?_ | with_reducible refine dn_ret ?_ | with_reducible refine dn_retN ?_ | with_reducible refine dn_new ?_ | with_reducible refine dn_parN ?_ | with_reducible refine dn_par ?_ | with_reducible refine dn_pair ?_ | with_reducible refine dn_raise ?_ | ((with_reducible apply dn_app); rfl) | with_reducible refine dn_item ?_ | with_reducible refine sq_set ?_ | with_reducible refine sq_pair ?_ | with_reducible refine sq_par ?_ | with_reducible refine sq_parN ?_ | with_reducible refine sq_new ?_ | with_reducible refine sq_item ?_ | ((with_reducible apply sq_app); rfl) | refine ⟨_, _, _, rfl, rfl, rfl, ?_⟩ | refine ⟨_, rfl, ?_⟩ | refine ⟨⟨_, rfl⟩, ?_⟩ | refine ⟨Nat.le_of_ble_eq_true rfl, ?_⟩)
    refine ok_lc (fun d => .bl (oB d)) ?_
    repeat (first | with_reducible refine ok_op ?_ | with_reducible refine ok_un ?_ | with_reducible refine ok_cb ?_ | with_reducible refine ok_cons ?_ | with_reducible refine ok_nil ?_ | with_reducible refine ok_giv ?_ | with_reducible refine ok_lst ?_ | with_reducible refine ok_tup ?_ | with_reducible refine ok_dic ?_ | with_reducible refine ok_bool ?_ | with_reducible refine ok_not ?_ | with_reducible refine ok_notV ?_ | with_reducible refine ok_sl ?_ | with_reducible refine ok_part ?_ | with_reducible refine ok_join ?_ | with_reducible refine ok_it ?_ | with_reducible refine ok_itA ?_ | with_reducible refine ok_call0 ?_ | with_reducible refine ok_callN ?_ | with_reducible refine ok_chain ?_ | ((with_reducible apply ok_var); rfl) | ((with_reducible apply ok_varL); rfl) | ((with_reducible apply ok_ixN); rfl) | ((with_reducible apply ok_ixM); rfl) | ((with_reducible apply ok_lenN); rfl) | ((with_reducible apply ok_lenM); rfl) | ((with_reducible apply ok_callY); rfl) | with_reducible refine dn_set ?_ | with_reducible refine dn_ret ?_ | with_reducible refine dn_retN ?_ | with_reducible refine dn_new ?_ | with_reducible refine dn_parN ?_ | with_reducible refine dn_par ?_ | with_reducible refine dn_pair ?_ | with_reducible refine dn_raise ?_ | ((with_reducible apply dn_app); rfl) | with_reducible refine dn_item ?_ | with_reducible refine sq_set ?_ | with_reducible refine sq_pair ?_ | with_reducible refine sq_par ?_ | with_reducible refine sq_parN ?_ | with_reducible refine sq_new ?_ | with_reducible refine sq_item ?_ | ((with_reducible apply sq_app); rfl) | refine ⟨_, _, _, rfl, rfl, rfl, ?_⟩ | refine ⟨_, rfl, ?_⟩ | refine ⟨⟨_, rfl⟩, ?_⟩ | refine ⟨Nat.le_of_ble_eq_true rfl, ?_⟩)
    refine ⟨by omega, fun d hd => ⟨_, rfl, ?_⟩, ?_⟩
    · obtain ⟨x, rfl⟩ := h d hd
      repeat (first | with_reducible refine ok_op ?_ | with_reducible refine ok_un ?_ | with_reducible refine ok_cb ?_ | with_reducible refine ok_cons ?_ | with_reducible refine ok_nil ?_ | with_reducible refine ok_giv ?_ | with_reducible refine ok_lst ?_ | with_reducible refine ok_tup ?_ | with_reducible refine ok_dic ?_ | with_reducible refine ok_bool ?_ | with_reducible refine ok_not ?_ | with_reducible refine ok_notV ?_ | with_reducible refine ok_sl ?_ | with_reducible refine ok_part ?_ | with_reducible refine ok_join ?_ | with_reducible refine ok_it ?_ | with_reducible refine ok_itA ?_ | with_reducible refine ok_call0 ?_ | with_reducible refine ok_callN ?_ | with_reducible refine ok_chain ?_ | ((with_reducible apply ok_var); rfl) | ((with_reducible apply ok_varL); rfl) | ((with_reducible apply ok_ixN); rfl) | ((with_reducible apply ok_ixM); rfl) | ((with_reducible apply ok_lenN); rfl) | ((with_reducible apply ok_lenM); rfl) | ((with_reducible apply ok_callY); rfl) | with_reducible refine dn_set ?_ | with_reducible refine dn_ret ?_ | with_reducible refine dn_retN ?_ | with_reducible refine dn_new ?_ | with_reducible refine dn_parN ?_ | with_reducible refine dn_par ?_ | with_reducible refine dn_pair ?_ | with_reducible refine dn_raise ?_ | ((with_reducible apply dn_app); rfl) | with_reducible refine dn_item ?_ | with_reducible refine sq_set ?_ | with_reducible refine sq_pair ?_ | with_reducible refine sq_par ?_ | with_reducible refine sq_parN ?_ | with_reducible refine sq_new ?_ | with_reducible refine sq_item ?_ | ((with_reducible apply sq_app); rfl) | refine ⟨_, _, _, rfl, rfl, rfl, ?_⟩ | refine ⟨_, rfl, ?_⟩ | refine ⟨⟨_, rfl⟩, ?_⟩ | refine ⟨Nat.le_of_ble_eq_true rfl, ?_⟩)
      exact ⟨rfl, rfl⟩
    · repeat (first | with_reducible refine ok_op ?_ | with_reducible refine ok_un ?_ | with_reducible refine ok_cb ?_ | with_reducible refine ok_cons ?_ | with_reducible refine ok_nil ?_ | with_reducible refine ok_giv ?_ | with_reducible refine ok_lst ?_ | with_reducible refine ok_tup ?_ | with_reducible refine ok_dic ?_ | with_reducible refine ok_bool ?_ | with_reducible refine ok_not ?_ | with_reducible refine ok_notV ?_ | with_reducible refine ok_sl ?_ | with_reducible refine ok_part ?_ | with_reducible refine ok_join ?_ | with_reducible refine ok_it ?_ | with_reducible refine ok_itA ?_ | with_reducible refine ok_call0 ?_ | with_reducible refine ok_callN ?_ | with_reducible refine ok_chain ?_ | ((with_reducible apply ok_var); rfl) | ((with_reducible apply ok_varL); rfl) | ((with_reducible apply ok_ixN); rfl) | ((with_reducible apply ok_ixM); rfl) | ((with_reducible apply ok_lenN); rfl) | ((with_reducible apply ok_lenM); rfl) | ((with_reducible apply ok_callY); rfl) | with_reducible refine dn_set ?_ | with_reducible refine dn_ret ?_ | with_reducible refine dn_retN ?_ | with_reducible refine dn_new ?_ | with_reducible refine dn_parN ?_ | with_reducible refine dn_par ?_ | with_reducible refine dn_pair ?_ | with_reducible refine dn_raise ?_ | ((with_reducible apply dn_app); rfl) | with_reducible refine dn_item ?_ | with_reducible refine sq_set ?_ | with_reducible refine sq_pair ?_ | with_reducible refine sq_par ?_ | with_reducible refine sq_parN ?_ | with_reducible refine sq_new ?_ | with_reducible refine sq_item ?_ | ((with_reducible apply sq_app); rfl) | refine ⟨_, _, _, rfl, rfl, rfl, ?_⟩ | refine ⟨_, rfl, ?_⟩ | refine ⟨⟨_, rfl⟩, ?_⟩ | refine ⟨Nat.le_of_ble_eq_true rfl, ?_⟩)
      exact ⟨_, all_bl, _, rfl, rfl⟩
  obtain ⟨r, e, rfl⟩ := key
  exact e
end L02
namespace L02
open PySem L2 Wd
def colS (ds : List D) (j : Nat) : Str := Txt.join "" (ds.map fun d => (⟨#[chr j d]⟩ : Str))
theorem col_list (ds : List D) (j : Nat) : (colS ds j).cps.toList = ds.map (chr j) := by
  unfold colS
  rw [join_list, List.map_map]
  induction ds with
  | nil => rfl
  | cons d r ih => rw [List.map_cons, List.flatten_cons, ih, List.map_cons]; rfl
theorem col_join {ds : List D} {j : Nat} (hl : ds.length ≤ 1000) : joinF (.str "") (.lst (ds.map fun d => .str ⟨#[chr j d]⟩)) = some (.str (colS ds j)) := by
  have e : (ds.map fun d => D.str ⟨#[chr j d]⟩) = (ds.map fun d => (⟨#[chr j d]⟩ : Str)).map D.str := by rw [List.map_map]; rfl
  rw [e]
  show (match strsL ((ds.map fun d => (⟨#[chr j d]⟩ : Str)).map D.str) with | some ys => if (ys.map fun y : Str => y.length).sum + ys.length * ("" : Str).length ≤ 16777216 then some (D.str (Txt.join "" ys)) else none | none => none) = _
  rw [strs_str]
  refine if_pos ?_
  show ((ds.map fun d => (⟨#[chr j d]⟩ : Str)).map fun y : Str => y.length).sum + (ds.map fun d => (⟨#[chr j d]⟩ : Str)).length * 0 ≤ 16777216
  have : ((ds.map fun d => (⟨#[chr j d]⟩ : Str)).map fun y : Str => y.length).sum = ds.length := by
    clear e hl
    induction ds with
    | nil => rfl
    | cons d r ih =>
      rw [List.map_cons, List.map_cons, List.sum_cons, ih, List.length_cons]
      show 1 + _ = _
      omega
  rw [this]
  omega
theorem chr_at {x : Str} {j : Nat} (h : j < x.length) (hx : x.length ≤ 100000) : ixF (.str x) (.int (j : Int)) = some (.str ⟨#[chr j (.str x)]⟩) := by
  show (if x.length ≤ 100000 then (atI x.cps.toList (j : Int)).map fun c => D.str ⟨#[c]⟩ else none) = _
  rw [if_pos hx]
  have h2 : j < x.cps.toList.length := by rw [← len_list]; exact h
  unfold atI ixN
  rw [if_pos (by omega), if_pos (by omega)]
  show (x.cps.toList[(j : Int).toNat]?).map _ = _
  rw [Int.toNat_natCast, List.getElem?_eq_getElem h2]
  show some (D.str ⟨#[x.cps.toList[j]]⟩) = some (D.str ⟨#[(x.cps.toList[j]?).getD 0]⟩)
  rw [List.getElem?_eq_getElem h2]
  rfl
theorem chr_lt {x : Str} {j : Nat} (h : ∀ c ∈ x.cps.toList, c < 1114112) : chr j (.str x) < 1114112 := by
  show (x.cps.toList[j]?).getD 0 < _
  cases q : x.cps.toList[j]? with
  | none => decide
  | some c => exact h c (List.mem_of_getElem? q)
/-- rows of one length -/
structure Rect (ds : List D) (W : Nat) : Prop where
  ne : ds ≠ []
  len : ds.length ≤ 10
  wid : W ≤ 10
  str : ∀ d ∈ ds, ∃ x : Str, d = .str x ∧ x.length = W ∧ ∀ c ∈ x.cps.toList, c < 1114112
theorem Rect.head {ds : List D} {W : Nat} (h : Rect ds W) : ∃ (x : Str) (r : List D), ds = .str x :: r ∧ x.length = W := by
  cases ds with
  | nil => exact absurd rfl h.ne
  | cons d r =>
    obtain ⟨x, rfl, e, _⟩ := h.str _ (List.mem_cons_self ..)
    exact ⟨x, r, rfl, e⟩
theorem ix0_ok {ds : List D} {W : Nat} (h : Rect ds W) : ∃ x : Str, ixF (.tup ds) (.int 0) = some (.str x) ∧ lenF [.str x] = some (.int (W : Int)) := by
  obtain ⟨x, r, rfl, rfl⟩ := h.head
  have := h.wid
  exact ⟨x, ix_T0, len_str (by omega)⟩
theorem rng_len (W : Nat) : ((List.range W).map fun i : Nat => D.int (i : Int)).length = W := by rw [List.length_map, List.length_range]
theorem turned_ok {A : Adr} {ds : List D} {W : Nat} (h : Rect ds W) : m__turned A [.tup ds] = some (.ok (.tup ((List.range W).map fun j => .str (colS ds j)))) := by
  have key : ∃ r, m__turned A [.tup ds] = some (.ok r) ∧ r = .tup ((List.range W).map fun j => .str (colS ds j)) := by
    unfold m__turned
    refine fnX rfl (P := fun r => r = .tup ((List.range W).map fun j => .str (colS ds j))) ?_
    obtain ⟨x0, hx0, hl0⟩ := ix0_ok h
    have hw := h.wid
    have hh := h.len
    repeat (first | with_reducible refine ok_op ?_ | with_reducible refine ok_un ?_ | with_reducible refine ok_cb ?_ | with_reducible refine ok_cons ?_ | with_reducible refine ok_nil ?_ | with_reducible refine ok_giv ?_ | with_reducible refine ok_lst ?_ | with_reducible refine ok_tup ?_ | with_reducible refine ok_dic ?_ | with_reducible refine ok_bool ?_ | with_reducible refine ok_not ?_ | with_reducible refine ok_notV ?_ | with_reducible refine ok_sl ?_ | with_reducible refine ok_part ?_ | with_reducible refine ok_join ?_ | with_reducible refine ok_it ?_ | with_reducible refine ok_itA ?_ | with_reducible refine ok_call0 ?_ | with_reducible refine ok_callN ?_ | with_reducible refine ok_chain ?_ | ((with_reducible apply ok_var); rfl) | ((with_reducible apply ok_varL); rfl) | ((with_reducible apply ok_ixN); rfl) | ((with_reducible apply ok_ixM); rfl) | ((with_reducible apply ok_lenN); rfl) | ((with_reducible apply ok_lenM); rfl) | ((with_reducible apply ok_callY); rfl) | with_reducible refine dn_set ?_ | with_reducible refine dn_ret ?_ | with_reducible refine dn_retN ?_ | with_reducible refine dn_new ?_ | with_reducible refine dn_parN ?_ | with_reducible refine dn_par ?_ | with_reducible refine dn_pair ?_ | with_reducible refine dn_raise ?_ | ((with_reducible apply dn_app); rfl) | with_reducible refine dn_item ?_ | with_reducible refine sq_set ?_ | with_reducible refine sq_pair ?_ | with_reducible refine sq_par ?_ | with_reducible refine sq_parN ?_ | with_reducible refine sq_new ?_ | with_reducible refine sq_item ?_ | ((with_reducible apply sq_app); rfl) | refine ⟨_, _, _, rfl, rfl, rfl, ?_⟩ | refine ⟨_, rfl, ?_⟩ | refine ⟨⟨_, rfl⟩, ?_⟩ | refine ⟨Nat.le_of_ble_eq_true rfl, ?_⟩)
    refine ok_lc (fun d => match d with | .int j => .str (colS ds j.toNat) | _ => .non) ?_
    repeat (first | with_reducible refine ok_op ?_ | with_reducible refine ok_un ?_ | with_reducible refine ok_cb ?_ | with_reducible refine ok_cons ?_ | with_reducible refine ok_nil ?_ | with_reducible refine ok_giv ?_ | with_reducible refine ok_lst ?_ | with_reducible refine ok_tup ?_ | with_reducible refine ok_dic ?_ | with_reducible refine ok_bool ?_ | with_reducible refine ok_not ?_ | with_reducible refine ok_notV ?_ | with_reducible refine ok_sl ?_ | with_reducible refine ok_part ?_ | with_reducible refine ok_join ?_ | with_reducible refine ok_it ?_ | with_reducible refine ok_itA ?_ | with_reducible refine ok_call0 ?_ | with_reducible refine ok_callN ?_ | with_reducible refine ok_chain ?_ | ((with_reducible apply ok_var); rfl) | ((with_reducible apply ok_varL); rfl) | ((with_reducible apply ok_ixN); rfl) | ((with_reducible apply ok_ixM); rfl) | ((with_reducible apply ok_lenN); rfl) | ((with_reducible apply ok_lenM); rfl) | ((with_reducible apply ok_callY); rfl) | with_reducible refine dn_set ?_ | with_reducible refine dn_ret ?_ | with_reducible refine dn_retN ?_ | with_reducible refine dn_new ?_ | with_reducible refine dn_parN ?_ | with_reducible refine dn_par ?_ | with_reducible refine dn_pair ?_ | with_reducible refine dn_raise ?_ | ((with_reducible apply dn_app); rfl) | with_reducible refine dn_item ?_ | with_reducible refine sq_set ?_ | with_reducible refine sq_pair ?_ | with_reducible refine sq_par ?_ | with_reducible refine sq_parN ?_ | with_reducible refine sq_new ?_ | with_reducible refine sq_item ?_ | ((with_reducible apply sq_app); rfl) | refine ⟨_, _, _, rfl, rfl, rfl, ?_⟩ | refine ⟨_, rfl, ?_⟩ | refine ⟨⟨_, rfl⟩, ?_⟩ | refine ⟨Nat.le_of_ble_eq_true rfl, ?_⟩)
    refine ⟨_, hx0, ?_⟩
    repeat (first | with_reducible refine ok_op ?_ | with_reducible refine ok_un ?_ | with_reducible refine ok_cb ?_ | with_reducible refine ok_cons ?_ | with_reducible refine ok_nil ?_ | with_reducible refine ok_giv ?_ | with_reducible refine ok_lst ?_ | with_reducible refine ok_tup ?_ | with_reducible refine ok_dic ?_ | with_reducible refine ok_bool ?_ | with_reducible refine ok_not ?_ | with_reducible refine ok_notV ?_ | with_reducible refine ok_sl ?_ | with_reducible refine ok_part ?_ | with_reducible refine ok_join ?_ | with_reducible refine ok_it ?_ | with_reducible refine ok_itA ?_ | with_reducible refine ok_call0 ?_ | with_reducible refine ok_callN ?_ | with_reducible refine ok_chain ?_ | ((with_reducible apply ok_var); rfl) | ((with_reducible apply ok_varL); rfl) | ((with_reducible apply ok_ixN); rfl) | ((with_reducible apply ok_ixM); rfl) | ((with_reducible apply ok_lenN); rfl) | ((with_reducible apply ok_lenM); rfl) | ((with_reducible apply ok_callY); rfl) | with_reducible refine dn_set ?_ | with_reducible refine dn_ret ?_ | with_reducible refine dn_retN ?_ | with_reducible refine dn_new ?_ | with_reducible refine dn_parN ?_ | with_reducible refine dn_par ?_ | with_reducible refine dn_pair ?_ | with_reducible refine dn_raise ?_ | ((with_reducible apply dn_app); rfl) | with_reducible refine dn_item ?_ | with_reducible refine sq_set ?_ | with_reducible refine sq_pair ?_ | with_reducible refine sq_par ?_ | with_reducible refine sq_parN ?_ | with_reducible refine sq_new ?_ | with_reducible refine sq_item ?_ | ((with_reducible apply sq_app); rfl) | refine ⟨_, _, _, rfl, rfl, rfl, ?_⟩ | refine ⟨_, rfl, ?_⟩ | refine ⟨⟨_, rfl⟩, ?_⟩ | refine ⟨Nat.le_of_ble_eq_true rfl, ?_⟩)
    refine ⟨_, hl0, ?_⟩
    repeat (first | with_reducible refine ok_op ?_ | with_reducible refine ok_un ?_ | with_reducible refine ok_cb ?_ | with_reducible refine ok_cons ?_ | with_reducible refine ok_nil ?_ | with_reducible refine ok_giv ?_ | with_reducible refine ok_lst ?_ | with_reducible refine ok_tup ?_ | with_reducible refine ok_dic ?_ | with_reducible refine ok_bool ?_ | with_reducible refine ok_not ?_ | with_reducible refine ok_notV ?_ | with_reducible refine ok_sl ?_ | with_reducible refine ok_part ?_ | with_reducible refine ok_join ?_ | with_reducible refine ok_it ?_ | with_reducible refine ok_itA ?_ | with_reducible refine ok_call0 ?_ | with_reducible refine ok_callN ?_ | with_reducible refine ok_chain ?_ | ((with_reducible apply ok_var); rfl) | ((with_reducible apply ok_varL); rfl) | ((with_reducible apply ok_ixN); rfl) | ((with_reducible apply ok_ixM); rfl) | ((with_reducible apply ok_lenN); rfl) | ((with_reducible apply ok_lenM); rfl) | ((with_reducible apply ok_callY); rfl) | with_reducible refine dn_set ?_ | with_reducible refine dn_ret ?_ | with_reducible refine dn_retN ?_ | with_reducible refine dn_new ?_ | with_reducible refine dn_parN ?_ | with_reducible refine dn_par ?_ | with_reducible refine dn_pair ?_ | with_reducible refine dn_raise ?_ | ((with_reducible apply dn_app); rfl) | with_reducible refine dn_item ?_ | with_reducible refine sq_set ?_ | with_reducible refine sq_pair ?_ | with_reducible refine sq_par ?_ | with_reducible refine sq_parN ?_ | with_reducible refine sq_new ?_ | with_reducible refine sq_item ?_ | ((with_reducible apply sq_app); rfl) | refine ⟨_, _, _, rfl, rfl, rfl, ?_⟩ | refine ⟨_, rfl, ?_⟩ | refine ⟨⟨_, rfl⟩, ?_⟩ | refine ⟨Nat.le_of_ble_eq_true rfl, ?_⟩)
    refine ⟨_, rng_nat (by omega), by rw [rng_len]; omega, fun d hd => ?_, ?_⟩
    · obtain ⟨j, hj, rfl⟩ := List.mem_map.mp hd
      have hj := List.mem_range.mp hj
      refine ⟨_, rfl, ?_⟩
      repeat (first | with_reducible refine ok_op ?_ | with_reducible refine ok_un ?_ | with_reducible refine ok_cb ?_ | with_reducible refine ok_cons ?_ | with_reducible refine ok_nil ?_ | with_reducible refine ok_giv ?_ | with_reducible refine ok_lst ?_ | with_reducible refine ok_tup ?_ | with_reducible refine ok_dic ?_ | with_reducible refine ok_bool ?_ | with_reducible refine ok_not ?_ | with_reducible refine ok_notV ?_ | with_reducible refine ok_sl ?_ | with_reducible refine ok_part ?_ | with_reducible refine ok_join ?_ | with_reducible refine ok_it ?_ | with_reducible refine ok_itA ?_ | with_reducible refine ok_call0 ?_ | with_reducible refine ok_callN ?_ | with_reducible refine ok_chain ?_ | ((with_reducible apply ok_var); rfl) | ((with_reducible apply ok_varL); rfl) | ((with_reducible apply ok_ixN); rfl) | ((with_reducible apply ok_ixM); rfl) | ((with_reducible apply ok_lenN); rfl) | ((with_reducible apply ok_lenM); rfl) | ((with_reducible apply ok_callY); rfl) | with_reducible refine dn_set ?_ | with_reducible refine dn_ret ?_ | with_reducible refine dn_retN ?_ | with_reducible refine dn_new ?_ | with_reducible refine dn_parN ?_ | with_reducible refine dn_par ?_ | with_reducible refine dn_pair ?_ | with_reducible refine dn_raise ?_ | ((with_reducible apply dn_app); rfl) | with_reducible refine dn_item ?_ | with_reducible refine sq_set ?_ | with_reducible refine sq_pair ?_ | with_reducible refine sq_par ?_ | with_reducible refine sq_parN ?_ | with_reducible refine sq_new ?_ | with_reducible refine sq_item ?_ | ((with_reducible apply sq_app); rfl) | refine ⟨_, _, _, rfl, rfl, rfl, ?_⟩ | refine ⟨_, rfl, ?_⟩ | refine ⟨⟨_, rfl⟩, ?_⟩ | refine ⟨Nat.le_of_ble_eq_true rfl, ?_⟩)
      refine ok_lc (fun d => .str ⟨#[chr j d]⟩) ?_
      repeat (first | with_reducible refine ok_op ?_ | with_reducible refine ok_un ?_ | with_reducible refine ok_cb ?_ | with_reducible refine ok_cons ?_ | with_reducible refine ok_nil ?_ | with_reducible refine ok_giv ?_ | with_reducible refine ok_lst ?_ | with_reducible refine ok_tup ?_ | with_reducible refine ok_dic ?_ | with_reducible refine ok_bool ?_ | with_reducible refine ok_not ?_ | with_reducible refine ok_notV ?_ | with_reducible refine ok_sl ?_ | with_reducible refine ok_part ?_ | with_reducible refine ok_join ?_ | with_reducible refine ok_it ?_ | with_reducible refine ok_itA ?_ | with_reducible refine ok_call0 ?_ | with_reducible refine ok_callN ?_ | with_reducible refine ok_chain ?_ | ((with_reducible apply ok_var); rfl) | ((with_reducible apply ok_varL); rfl) | ((with_reducible apply ok_ixN); rfl) | ((with_reducible apply ok_ixM); rfl) | ((with_reducible apply ok_lenN); rfl) | ((with_reducible apply ok_lenM); rfl) | ((with_reducible apply ok_callY); rfl) | with_reducible refine dn_set ?_ | with_reducible refine dn_ret ?_ | with_reducible refine dn_retN ?_ | with_reducible refine dn_new ?_ | with_reducible refine dn_parN ?_ | with_reducible refine dn_par ?_ | with_reducible refine dn_pair ?_ | with_reducible refine dn_raise ?_ | ((with_reducible apply dn_app); rfl) | with_reducible refine dn_item ?_ | with_reducible refine sq_set ?_ | with_reducible refine sq_pair ?_ | with_reducible refine sq_par ?_ | with_reducible refine sq_parN ?_ | with_reducible refine sq_new ?_ | with_reducible refine sq_item ?_ | ((with_reducible apply sq_app); rfl) | refine ⟨_, _, _, rfl, rfl, rfl, ?_⟩ | refine ⟨_, rfl, ?_⟩ | refine ⟨⟨_, rfl⟩, ?_⟩ | refine ⟨Nat.le_of_ble_eq_true rfl, ?_⟩)
      refine ⟨by omega, fun d hd => ?_, ?_⟩
      · obtain ⟨x, rfl, e, _⟩ := h.str d hd
        refine ⟨_, rfl, ?_⟩
        repeat (first | with_reducible refine ok_op ?_ | with_reducible refine ok_un ?_ | with_reducible refine ok_cb ?_ | with_reducible refine ok_cons ?_ | with_reducible refine ok_nil ?_ | with_reducible refine ok_giv ?_ | with_reducible refine ok_lst ?_ | with_reducible refine ok_tup ?_ | with_reducible refine ok_dic ?_ | with_reducible refine ok_bool ?_ | with_reducible refine ok_not ?_ | with_reducible refine ok_notV ?_ | with_reducible refine ok_sl ?_ | with_reducible refine ok_part ?_ | with_reducible refine ok_join ?_ | with_reducible refine ok_it ?_ | with_reducible refine ok_itA ?_ | with_reducible refine ok_call0 ?_ | with_reducible refine ok_callN ?_ | with_reducible refine ok_chain ?_ | ((with_reducible apply ok_var); rfl) | ((with_reducible apply ok_varL); rfl) | ((with_reducible apply ok_ixN); rfl) | ((with_reducible apply ok_ixM); rfl) | ((with_reducible apply ok_lenN); rfl) | ((with_reducible apply ok_lenM); rfl) | ((with_reducible apply ok_callY); rfl) | with_reducible refine dn_set ?_ | with_reducible refine dn_ret ?_ | with_reducible refine dn_retN ?_ | with_reducible refine dn_new ?_ | with_reducible refine dn_parN ?_ | with_reducible refine dn_par ?_ | with_reducible refine dn_pair ?_ | with_reducible refine dn_raise ?_ | ((with_reducible apply dn_app); rfl) | with_reducible refine dn_item ?_ | with_reducible refine sq_set ?_ | with_reducible refine sq_pair ?_ | with_reducible refine sq_par ?_ | with_reducible refine sq_parN ?_ | with_reducible refine sq_new ?_ | with_reducible refine sq_item ?_ | ((with_reducible apply sq_app); rfl) | refine ⟨_, _, _, rfl, rfl, rfl, ?_⟩ | refine ⟨_, rfl, ?_⟩ | refine ⟨⟨_, rfl⟩, ?_⟩ | refine ⟨Nat.le_of_ble_eq_true rfl, ?_⟩)
        exact ⟨_, chr_at (by omega) (by omega), rfl, rfl⟩
      · refine ⟨_, col_join (by omega), ?_, rfl⟩
        show D.str (colS ds j) = D.str (colS ds (j : Int).toNat)
        rw [Int.toNat_natCast]
    · repeat (first | with_reducible refine ok_op ?_ | with_reducible refine ok_un ?_ | with_reducible refine ok_cb ?_ | with_reducible refine ok_cons ?_ | with_reducible refine ok_nil ?_ | with_reducible refine ok_giv ?_ | with_reducible refine ok_lst ?_ | with_reducible refine ok_tup ?_ | with_reducible refine ok_dic ?_ | with_reducible refine ok_bool ?_ | with_reducible refine ok_not ?_ | with_reducible refine ok_notV ?_ | with_reducible refine ok_sl ?_ | with_reducible refine ok_part ?_ | with_reducible refine ok_join ?_ | with_reducible refine ok_it ?_ | with_reducible refine ok_itA ?_ | with_reducible refine ok_call0 ?_ | with_reducible refine ok_callN ?_ | with_reducible refine ok_chain ?_ | ((with_reducible apply ok_var); rfl) | ((with_reducible apply ok_varL); rfl) | ((with_reducible apply ok_ixN); rfl) | ((with_reducible apply ok_ixM); rfl) | ((with_reducible apply ok_lenN); rfl) | ((with_reducible apply ok_lenM); rfl) | ((with_reducible apply ok_callY); rfl) | with_reducible refine dn_set ?_ | with_reducible refine dn_ret ?_ | with_reducible refine dn_retN ?_ | with_reducible refine dn_new ?_ | with_reducible refine dn_parN ?_ | with_reducible refine dn_par ?_ | with_reducible refine dn_pair ?_ | with_reducible refine dn_raise ?_ | ((with_reducible apply dn_app); rfl) | with_reducible refine dn_item ?_ | with_reducible refine sq_set ?_ | with_reducible refine sq_pair ?_ | with_reducible refine sq_par ?_ | with_reducible refine sq_parN ?_ | with_reducible refine sq_new ?_ | with_reducible refine sq_item ?_ | ((with_reducible apply sq_app); rfl) | refine ⟨_, _, _, rfl, rfl, rfl, ?_⟩ | refine ⟨_, rfl, ?_⟩ | refine ⟨⟨_, rfl⟩, ?_⟩ | refine ⟨Nat.le_of_ble_eq_true rfl, ?_⟩)
      rw [List.map_map]
      first | rfl | exact ⟨_, rfl, rfl⟩
  obtain ⟨r, e, rfl⟩ := key
  exact e
theorem cols_all {ds : List D} {W : Nat} : (((List.range W).map fun j => D.str (colS ds j)).all oB) = (List.range W).all (colB ds) := by
  rw [List.all_map]
  congr 1
  funext j
  show decide (111 ∈ (colS ds j).cps.toList) = decide (111 ∈ ds.map (chr j))
  rw [col_list]
theorem lcGo_some {g : D → Sl → Option Sl} {t : M Bool} {m : M D} {vs : List Nat} {E : Sl} : ∀ {ds : List D}, (∀ d ∈ ds, ∃ ε2, g d E = some ε2 ∧ Ok t ε2 fun b ε3 => (b = true → Ok m ε3 fun _ ε4 => wipeE ε4 vs = E) ∧ (b = false → wipeE ε3 vs = E)) → ∃ l, lcGo g t m vs ds E = some (l, E) ∧ l.length ≤ ds.length
  | [], _ => ⟨[], rfl, Nat.le_refl _⟩
  | d :: r, h => by
    obtain ⟨ε2, h1, b, ε3, h2, h3, h4⟩ := h d (List.mem_cons_self ..)
    obtain ⟨l, q1, q2⟩ := lcGo_some (ds := r) fun x hx => h x (List.mem_cons_of_mem _ hx)
    cases b with
    | true =>
      obtain ⟨y, ε4, h5, h6⟩ := h3 rfl
      refine ⟨y :: l, ?_, by rw [List.length_cons, List.length_cons]; omega⟩
      unfold lcGo
      simp only [h1, h2, h5, h6, q1, Option.map_some]
    | false =>
      refine ⟨l, ?_, by rw [List.length_cons]; omega⟩
      unfold lcGo
      simp only [h1, h2, h4 rfl, q1]
theorem lc2_some {gv gv1 : D → Sl → Option Sl} {mi1 : M (List D)} {mt1 : M Bool} {me : M D} {vs vs1 : List Nat} {E : Sl} {n : Nat} : ∀ {ds : List D}, (∀ d ∈ ds, ∃ ε2 es ε3, gv d E = some ε2 ∧ mi1 ε2 = some (.ok es, ε3) ∧ es.length ≤ n ∧ wipeE (wipeE ε3 vs1) vs = E ∧
    ∀ d1 ∈ es, ∃ ε4, gv1 d1 (wipeE ε3 vs1) = some ε4 ∧ Ok mt1 ε4 fun b ε5 => (b = true → Ok me ε5 fun _ ε6 => wipeE ε6 vs1 = wipeE ε3 vs1) ∧ (b = false → wipeE ε5 vs1 = wipeE ε3 vs1)) → ∃ l, lc2Go gv mi1 gv1 mt1 me vs vs1 ds E = some (l, E) ∧ l.length ≤ ds.length * n
  | [], _ => ⟨[], rfl, Nat.zero_le _⟩
  | d :: r, h => by
    obtain ⟨ε2, es, ε3, h1, h2, h3, h4, h5⟩ := h d (List.mem_cons_self ..)
    obtain ⟨l, q1, q2⟩ := lc2_some (ds := r) fun x hx => h x (List.mem_cons_of_mem _ hx)
    obtain ⟨l1, r1, r2⟩ := lcGo_some h5
    refine ⟨l1 ++ l, ?_, by rw [List.length_append, List.length_cons, Nat.add_mul, Nat.one_mul]; omega⟩
    unfold lc2Go
    simp only [h1, h2, r1, h4, q1, Option.map_some]
theorem dots_ok {A : Adr} {ds : List D} {W : Nat} (h : Rect ds W) : ∃ l, m__dots_of A [.tup ds] = some (.ok (.tup l)) := by
  have hw := h.wid
  have hh := h.len
  obtain ⟨x0, hx0, hl0⟩ := ix0_ok h
  have key : ∃ r, m__dots_of A [.tup ds] = some (.ok r) ∧ ∃ l, r = .tup l := by
    unfold m__dots_of
    refine fnX rfl (P := fun r => ∃ l, r = .tup l) ?_
    repeat (first | with_reducible refine ok_op ?_ | with_reducible refine ok_un ?_ | with_reducible refine ok_cb ?_ | with_reducible refine ok_cons ?_ | with_reducible refine ok_nil ?_ | with_reducible refine ok_giv ?_ | with_reducible refine ok_lst ?_ | with_reducible refine ok_tup ?_ | with_reducible refine ok_dic ?_ | with_reducible refine ok_bool ?_ | with_reducible refine ok_not ?_ | with_reducible refine ok_notV ?_ | with_reducible refine ok_sl ?_ | with_reducible refine ok_part ?_ | with_reducible refine ok_join ?_ | with_reducible refine ok_it ?_ | with_reducible refine ok_itA ?_ | with_reducible refine ok_call0 ?_ | with_reducible refine ok_callN ?_ | with_reducible refine ok_chain ?_ | ((with_reducible apply ok_var); rfl) | ((with_reducible apply ok_varL); rfl) | ((with_reducible apply ok_ixN); rfl) | ((with_reducible apply ok_ixM); rfl) | ((with_reducible apply ok_lenN); rfl) | ((with_reducible apply ok_lenM); rfl) | ((with_reducible apply ok_callY); rfl) | with_reducible refine dn_set ?_ | with_reducible refine dn_ret ?_ | with_reducible refine dn_retN ?_ | with_reducible refine dn_new ?_ | with_reducible refine dn_parN ?_ | with_reducible refine dn_par ?_ | with_reducible refine dn_pair ?_ | with_reducible refine dn_raise ?_ | ((with_reducible apply dn_app); rfl) | with_reducible refine dn_item ?_ | with_reducible refine sq_set ?_ | with_reducible refine sq_pair ?_ | with_reducible refine sq_par ?_ | with_reducible refine sq_parN ?_ | with_reducible refine sq_new ?_ | with_reducible refine sq_item ?_ | ((with_reducible apply sq_app); rfl) | refine ⟨_, _, _, rfl, rfl, rfl, ?_⟩ | refine ⟨_, rfl, ?_⟩ | refine ⟨⟨_, rfl⟩, ?_⟩ | refine ⟨Nat.le_of_ble_eq_true rfl, ?_⟩)
    refine ⟨_, hx0, ?_⟩
    repeat (first | with_reducible refine ok_op ?_ | with_reducible refine ok_un ?_ | with_reducible refine ok_cb ?_ | with_reducible refine ok_cons ?_ | with_reducible refine ok_nil ?_ | with_reducible refine ok_giv ?_ | with_reducible refine ok_lst ?_ | with_reducible refine ok_tup ?_ | with_reducible refine ok_dic ?_ | with_reducible refine ok_bool ?_ | with_reducible refine ok_not ?_ | with_reducible refine ok_notV ?_ | with_reducible refine ok_sl ?_ | with_reducible refine ok_part ?_ | with_reducible refine ok_join ?_ | with_reducible refine ok_it ?_ | with_reducible refine ok_itA ?_ | with_reducible refine ok_call0 ?_ | with_reducible refine ok_callN ?_ | with_reducible refine ok_chain ?_ | ((with_reducible apply ok_var); rfl) | ((with_reducible apply ok_varL); rfl) | ((with_reducible apply ok_ixN); rfl) | ((with_reducible apply ok_ixM); rfl) | ((with_reducible apply ok_lenN); rfl) | ((with_reducible apply ok_lenM); rfl) | ((with_reducible apply ok_callY); rfl) | with_reducible refine dn_set ?_ | with_reducible refine dn_ret ?_ | with_reducible refine dn_retN ?_ | with_reducible refine dn_new ?_ | with_reducible refine dn_parN ?_ | with_reducible refine dn_par ?_ | with_reducible refine dn_pair ?_ | with_reducible refine dn_raise ?_ | ((with_reducible apply dn_app); rfl) | with_reducible refine dn_item ?_ | with_reducible refine sq_set ?_ | with_reducible refine sq_pair ?_ | with_reducible refine sq_par ?_ | with_reducible refine sq_parN ?_ | with_reducible refine sq_new ?_ | with_reducible refine sq_item ?_ | ((with_reducible apply sq_app); rfl) | refine ⟨_, _, _, rfl, rfl, rfl, ?_⟩ | refine ⟨_, rfl, ?_⟩ | refine ⟨⟨_, rfl⟩, ?_⟩ | refine ⟨Nat.le_of_ble_eq_true rfl, ?_⟩)
    refine ⟨_, hl0, ?_⟩
    repeat (first | with_reducible refine ok_op ?_ | with_reducible refine ok_un ?_ | with_reducible refine ok_cb ?_ | with_reducible refine ok_cons ?_ | with_reducible refine ok_nil ?_ | with_reducible refine ok_giv ?_ | with_reducible refine ok_lst ?_ | with_reducible refine ok_tup ?_ | with_reducible refine ok_dic ?_ | with_reducible refine ok_bool ?_ | with_reducible refine ok_not ?_ | with_reducible refine ok_notV ?_ | with_reducible refine ok_sl ?_ | with_reducible refine ok_part ?_ | with_reducible refine ok_join ?_ | with_reducible refine ok_it ?_ | with_reducible refine ok_itA ?_ | with_reducible refine ok_call0 ?_ | with_reducible refine ok_callN ?_ | with_reducible refine ok_chain ?_ | ((with_reducible apply ok_var); rfl) | ((with_reducible apply ok_varL); rfl) | ((with_reducible apply ok_ixN); rfl) | ((with_reducible apply ok_ixM); rfl) | ((with_reducible apply ok_lenN); rfl) | ((with_reducible apply ok_lenM); rfl) | ((with_reducible apply ok_callY); rfl) | with_reducible refine dn_set ?_ | with_reducible refine dn_ret ?_ | with_reducible refine dn_retN ?_ | with_reducible refine dn_new ?_ | with_reducible refine dn_parN ?_ | with_reducible refine dn_par ?_ | with_reducible refine dn_pair ?_ | with_reducible refine dn_raise ?_ | ((with_reducible apply dn_app); rfl) | with_reducible refine dn_item ?_ | with_reducible refine sq_set ?_ | with_reducible refine sq_pair ?_ | with_reducible refine sq_par ?_ | with_reducible refine sq_parN ?_ | with_reducible refine sq_new ?_ | with_reducible refine sq_item ?_ | ((with_reducible apply sq_app); rfl) | refine ⟨_, _, _, rfl, rfl, rfl, ?_⟩ | refine ⟨_, rfl, ?_⟩ | refine ⟨⟨_, rfl⟩, ?_⟩ | refine ⟨Nat.le_of_ble_eq_true rfl, ?_⟩)
    have e0 : (startE 4 [D.tup ds]).set 1 (.dat (.int (W : Int))) = [.dat (.tup ds), .dat (.int (W : Int)), .no, .no] := rfl
    rw [e0]
    obtain ⟨l, hl, ll⟩ := lc2_some (gv := gvName 2) (gv1 := gvName 3) (mi1 := mItA rng1F (mCons (mVar 1) mNil)) (mt1 := mBool (mOp eqX (mOp ixF (mIxN 0 (mVar 2)) (mVar 3)) (giv (.str "o")))) (me := mTup (mCons (mVar 2) (mCons (mVar 3) mNil))) (vs := [2, 3]) (vs1 := [3]) (E := [.dat (.tup ds), .dat (.int (W : Int)), .no, .no]) (n := 10)
      (ds := (List.range ds.length).map fun i : Nat => D.int (i : Int)) fun d hd => by
        obtain ⟨i, hi, rfl⟩ := List.mem_map.mp hd
        have hi := List.mem_range.mp hi
        have mi : Ok (mItA rng1F (mCons (mVar 1) mNil)) [.dat (.tup ds), .dat (.int (W : Int)), .dat (.int (i : Int)), .no] fun es e => es = ((List.range W).map fun i : Nat => D.int (i : Int)) ∧ e = [.dat (.tup ds), .dat (.int (W : Int)), .dat (.int (i : Int)), .no] := by
          repeat (first | with_reducible refine ok_op ?_ | with_reducible refine ok_un ?_ | with_reducible refine ok_cb ?_ | with_reducible refine ok_cons ?_ | with_reducible refine ok_nil ?_ | with_reducible refine ok_giv ?_ | with_reducible refine ok_lst ?_ | with_reducible refine ok_tup ?_ | with_reducible refine ok_dic ?_ | with_reducible refine ok_bool ?_ | with_reducible refine ok_not ?_ | with_reducible refine ok_notV ?_ | with_reducible refine ok_sl ?_ | with_reducible refine ok_part ?_ | with_reducible refine ok_join ?_ | with_reducible refine ok_it ?_ | with_reducible refine ok_itA ?_ | with_reducible refine ok_call0 ?_ | with_reducible refine ok_callN ?_ | with_reducible refine ok_chain ?_ | ((with_reducible apply ok_var); rfl) | ((with_reducible apply ok_varL); rfl) | ((with_reducible apply ok_ixN); rfl) | ((with_reducible apply ok_ixM); rfl) | ((with_reducible apply ok_lenN); rfl) | ((with_reducible apply ok_lenM); rfl) | ((with_reducible apply ok_callY); rfl) | with_reducible refine dn_set ?_ | with_reducible refine dn_ret ?_ | with_reducible refine dn_retN ?_ | with_reducible refine dn_new ?_ | with_reducible refine dn_parN ?_ | with_reducible refine dn_par ?_ | with_reducible refine dn_pair ?_ | with_reducible refine dn_raise ?_ | ((with_reducible apply dn_app); rfl) | with_reducible refine dn_item ?_ | with_reducible refine sq_set ?_ | with_reducible refine sq_pair ?_ | with_reducible refine sq_par ?_ | with_reducible refine sq_parN ?_ | with_reducible refine sq_new ?_ | with_reducible refine sq_item ?_ | ((with_reducible apply sq_app); rfl) | refine ⟨_, _, _, rfl, rfl, rfl, ?_⟩ | refine ⟨_, rfl, ?_⟩ | refine ⟨⟨_, rfl⟩, ?_⟩ | refine ⟨Nat.le_of_ble_eq_true rfl, ?_⟩)
          exact ⟨_, rng_nat (by omega), rfl, rfl⟩
        obtain ⟨es, ε3, m1, rfl, rfl⟩ := mi
        refine ⟨_, _, _, rfl, m1, by rw [rng_len]; omega, rfl, fun d1 hd1 => ?_⟩
        obtain ⟨j, hj, rfl⟩ := List.mem_map.mp hd1
        have hj := List.mem_range.mp hj
        refine ⟨_, rfl, ?_⟩
        obtain ⟨z, hz, zm⟩ := atT (l := ds) (x := (i : Int)) (by omega) (by omega)
        obtain ⟨x, rfl, xw, _⟩ := h.str z zm
        repeat (first | with_reducible refine ok_op ?_ | with_reducible refine ok_un ?_ | with_reducible refine ok_cb ?_ | with_reducible refine ok_cons ?_ | with_reducible refine ok_nil ?_ | with_reducible refine ok_giv ?_ | with_reducible refine ok_lst ?_ | with_reducible refine ok_tup ?_ | with_reducible refine ok_dic ?_ | with_reducible refine ok_bool ?_ | with_reducible refine ok_not ?_ | with_reducible refine ok_notV ?_ | with_reducible refine ok_sl ?_ | with_reducible refine ok_part ?_ | with_reducible refine ok_join ?_ | with_reducible refine ok_it ?_ | with_reducible refine ok_itA ?_ | with_reducible refine ok_call0 ?_ | with_reducible refine ok_callN ?_ | with_reducible refine ok_chain ?_ | ((with_reducible apply ok_var); rfl) | ((with_reducible apply ok_varL); rfl) | ((with_reducible apply ok_ixN); rfl) | ((with_reducible apply ok_ixM); rfl) | ((with_reducible apply ok_lenN); rfl) | ((with_reducible apply ok_lenM); rfl) | ((with_reducible apply ok_callY); rfl) | with_reducible refine dn_set ?_ | with_reducible refine dn_ret ?_ | with_reducible refine dn_retN ?_ | with_reducible refine dn_new ?_ | with_reducible refine dn_parN ?_ | with_reducible refine dn_par ?_ | with_reducible refine dn_pair ?_ | with_reducible refine dn_raise ?_ | ((with_reducible apply dn_app); rfl) | with_reducible refine dn_item ?_ | with_reducible refine sq_set ?_ | with_reducible refine sq_pair ?_ | with_reducible refine sq_par ?_ | with_reducible refine sq_parN ?_ | with_reducible refine sq_new ?_ | with_reducible refine sq_item ?_ | ((with_reducible apply sq_app); rfl) | refine ⟨_, _, _, rfl, rfl, rfl, ?_⟩ | refine ⟨_, rfl, ?_⟩ | refine ⟨⟨_, rfl⟩, ?_⟩ | refine ⟨Nat.le_of_ble_eq_true rfl, ?_⟩)
        refine ⟨_, hz, ?_⟩
        repeat (first | with_reducible refine ok_op ?_ | with_reducible refine ok_un ?_ | with_reducible refine ok_cb ?_ | with_reducible refine ok_cons ?_ | with_reducible refine ok_nil ?_ | with_reducible refine ok_giv ?_ | with_reducible refine ok_lst ?_ | with_reducible refine ok_tup ?_ | with_reducible refine ok_dic ?_ | with_reducible refine ok_bool ?_ | with_reducible refine ok_not ?_ | with_reducible refine ok_notV ?_ | with_reducible refine ok_sl ?_ | with_reducible refine ok_part ?_ | with_reducible refine ok_join ?_ | with_reducible refine ok_it ?_ | with_reducible refine ok_itA ?_ | with_reducible refine ok_call0 ?_ | with_reducible refine ok_callN ?_ | with_reducible refine ok_chain ?_ | ((with_reducible apply ok_var); rfl) | ((with_reducible apply ok_varL); rfl) | ((with_reducible apply ok_ixN); rfl) | ((with_reducible apply ok_ixM); rfl) | ((with_reducible apply ok_lenN); rfl) | ((with_reducible apply ok_lenM); rfl) | ((with_reducible apply ok_callY); rfl) | with_reducible refine dn_set ?_ | with_reducible refine dn_ret ?_ | with_reducible refine dn_retN ?_ | with_reducible refine dn_new ?_ | with_reducible refine dn_parN ?_ | with_reducible refine dn_par ?_ | with_reducible refine dn_pair ?_ | with_reducible refine dn_raise ?_ | ((with_reducible apply dn_app); rfl) | with_reducible refine dn_item ?_ | with_reducible refine sq_set ?_ | with_reducible refine sq_pair ?_ | with_reducible refine sq_par ?_ | with_reducible refine sq_parN ?_ | with_reducible refine sq_new ?_ | with_reducible refine sq_item ?_ | ((with_reducible apply sq_app); rfl) | refine ⟨_, _, _, rfl, rfl, rfl, ?_⟩ | refine ⟨_, rfl, ?_⟩ | refine ⟨⟨_, rfl⟩, ?_⟩ | refine ⟨Nat.le_of_ble_eq_true rfl, ?_⟩)
        refine ⟨_, chr_at (by omega) (by omega), ?_⟩
        repeat (first | with_reducible refine ok_op ?_ | with_reducible refine ok_un ?_ | with_reducible refine ok_cb ?_ | with_reducible refine ok_cons ?_ | with_reducible refine ok_nil ?_ | with_reducible refine ok_giv ?_ | with_reducible refine ok_lst ?_ | with_reducible refine ok_tup ?_ | with_reducible refine ok_dic ?_ | with_reducible refine ok_bool ?_ | with_reducible refine ok_not ?_ | with_reducible refine ok_notV ?_ | with_reducible refine ok_sl ?_ | with_reducible refine ok_part ?_ | with_reducible refine ok_join ?_ | with_reducible refine ok_it ?_ | with_reducible refine ok_itA ?_ | with_reducible refine ok_call0 ?_ | with_reducible refine ok_callN ?_ | with_reducible refine ok_chain ?_ | ((with_reducible apply ok_var); rfl) | ((with_reducible apply ok_varL); rfl) | ((with_reducible apply ok_ixN); rfl) | ((with_reducible apply ok_ixM); rfl) | ((with_reducible apply ok_lenN); rfl) | ((with_reducible apply ok_lenM); rfl) | ((with_reducible apply ok_callY); rfl) | with_reducible refine dn_set ?_ | with_reducible refine dn_ret ?_ | with_reducible refine dn_retN ?_ | with_reducible refine dn_new ?_ | with_reducible refine dn_parN ?_ | with_reducible refine dn_par ?_ | with_reducible refine dn_pair ?_ | with_reducible refine dn_raise ?_ | ((with_reducible apply dn_app); rfl) | with_reducible refine dn_item ?_ | with_reducible refine sq_set ?_ | with_reducible refine sq_pair ?_ | with_reducible refine sq_par ?_ | with_reducible refine sq_parN ?_ | with_reducible refine sq_new ?_ | with_reducible refine sq_item ?_ | ((with_reducible apply sq_app); rfl) | refine ⟨_, _, _, rfl, rfl, rfl, ?_⟩ | refine ⟨_, rfl, ?_⟩ | refine ⟨⟨_, rfl⟩, ?_⟩ | refine ⟨Nat.le_of_ble_eq_true rfl, ?_⟩)
        refine ⟨fun _ => ?_, fun _ => rfl⟩
        repeat (first | with_reducible refine ok_op ?_ | with_reducible refine ok_un ?_ | with_reducible refine ok_cb ?_ | with_reducible refine ok_cons ?_ | with_reducible refine ok_nil ?_ | with_reducible refine ok_giv ?_ | with_reducible refine ok_lst ?_ | with_reducible refine ok_tup ?_ | with_reducible refine ok_dic ?_ | with_reducible refine ok_bool ?_ | with_reducible refine ok_not ?_ | with_reducible refine ok_notV ?_ | with_reducible refine ok_sl ?_ | with_reducible refine ok_part ?_ | with_reducible refine ok_join ?_ | with_reducible refine ok_it ?_ | with_reducible refine ok_itA ?_ | with_reducible refine ok_call0 ?_ | with_reducible refine ok_callN ?_ | with_reducible refine ok_chain ?_ | ((with_reducible apply ok_var); rfl) | ((with_reducible apply ok_varL); rfl) | ((with_reducible apply ok_ixN); rfl) | ((with_reducible apply ok_ixM); rfl) | ((with_reducible apply ok_lenN); rfl) | ((with_reducible apply ok_lenM); rfl) | ((with_reducible apply ok_callY); rfl) | with_reducible refine dn_set ?_ | with_reducible refine dn_ret ?_ | with_reducible refine dn_retN ?_ | with_reducible refine dn_new ?_ | with_reducible refine dn_parN ?_ | with_reducible refine dn_par ?_ | with_reducible refine dn_pair ?_ | with_reducible refine dn_raise ?_ | ((with_reducible apply dn_app); rfl) | with_reducible refine dn_item ?_ | with_reducible refine sq_set ?_ | with_reducible refine sq_pair ?_ | with_reducible refine sq_par ?_ | with_reducible refine sq_parN ?_ | with_reducible refine sq_new ?_ | with_reducible refine sq_item ?_ | ((with_reducible apply sq_app); rfl) | refine ⟨_, _, _, rfl, rfl, rfl, ?_⟩ | refine ⟨_, rfl, ?_⟩ | refine ⟨⟨_, rfl⟩, ?_⟩ | refine ⟨Nat.le_of_ble_eq_true rfl, ?_⟩)
        rfl
    refine ok_bnd ?_
    repeat (first | with_reducible refine ok_op ?_ | with_reducible refine ok_un ?_ | with_reducible refine ok_cb ?_ | with_reducible refine ok_cons ?_ | with_reducible refine ok_nil ?_ | with_reducible refine ok_giv ?_ | with_reducible refine ok_lst ?_ | with_reducible refine ok_tup ?_ | with_reducible refine ok_dic ?_ | with_reducible refine ok_bool ?_ | with_reducible refine ok_not ?_ | with_reducible refine ok_notV ?_ | with_reducible refine ok_sl ?_ | with_reducible refine ok_part ?_ | with_reducible refine ok_join ?_ | with_reducible refine ok_it ?_ | with_reducible refine ok_itA ?_ | with_reducible refine ok_call0 ?_ | with_reducible refine ok_callN ?_ | with_reducible refine ok_chain ?_ | ((with_reducible apply ok_var); rfl) | ((with_reducible apply ok_varL); rfl) | ((with_reducible apply ok_ixN); rfl) | ((with_reducible apply ok_ixM); rfl) | ((with_reducible apply ok_lenN); rfl) | ((with_reducible apply ok_lenM); rfl) | ((with_reducible apply ok_callY); rfl) | with_reducible refine dn_set ?_ | with_reducible refine dn_ret ?_ | with_reducible refine dn_retN ?_ | with_reducible refine dn_new ?_ | with_reducible refine dn_parN ?_ | with_reducible refine dn_par ?_ | with_reducible refine dn_pair ?_ | with_reducible refine dn_raise ?_ | ((with_reducible apply dn_app); rfl) | with_reducible refine dn_item ?_ | with_reducible refine sq_set ?_ | with_reducible refine sq_pair ?_ | with_reducible refine sq_par ?_ | with_reducible refine sq_parN ?_ | with_reducible refine sq_new ?_ | with_reducible refine sq_item ?_ | ((with_reducible apply sq_app); rfl) | refine ⟨_, _, _, rfl, rfl, rfl, ?_⟩ | refine ⟨_, rfl, ?_⟩ | refine ⟨⟨_, rfl⟩, ?_⟩ | refine ⟨Nat.le_of_ble_eq_true rfl, ?_⟩)
    refine ⟨_, rng_nat (by omega), ?_⟩
    refine ⟨.lst l, [.dat (.tup ds), .dat (.int (W : Int)), .no, .no], ?_, ?_⟩
    · show (match lc2Go _ _ _ _ _ _ _ _ (wipeE [.dat (.tup ds), .dat (.int (W : Int)), .no, .no] [2, 3]) with | some (l, e) => if l.length ≤ 100000 then some (Rs.ok (D.lst l), e) else none | none => none) = _
      have e1 : wipeE [Slo.dat (.tup ds), .dat (.int (W : Int)), .no, .no] [2, 3] = [.dat (.tup ds), .dat (.int (W : Int)), .no, .no] := rfl
      rw [e1, hl]
      refine if_pos ?_
      rw [rng_len] at ll
      omega
    · repeat (first | with_reducible refine ok_op ?_ | with_reducible refine ok_un ?_ | with_reducible refine ok_cb ?_ | with_reducible refine ok_cons ?_ | with_reducible refine ok_nil ?_ | with_reducible refine ok_giv ?_ | with_reducible refine ok_lst ?_ | with_reducible refine ok_tup ?_ | with_reducible refine ok_dic ?_ | with_reducible refine ok_bool ?_ | with_reducible refine ok_not ?_ | with_reducible refine ok_notV ?_ | with_reducible refine ok_sl ?_ | with_reducible refine ok_part ?_ | with_reducible refine ok_join ?_ | with_reducible refine ok_it ?_ | with_reducible refine ok_itA ?_ | with_reducible refine ok_call0 ?_ | with_reducible refine ok_callN ?_ | with_reducible refine ok_chain ?_ | ((with_reducible apply ok_var); rfl) | ((with_reducible apply ok_varL); rfl) | ((with_reducible apply ok_ixN); rfl) | ((with_reducible apply ok_ixM); rfl) | ((with_reducible apply ok_lenN); rfl) | ((with_reducible apply ok_lenM); rfl) | ((with_reducible apply ok_callY); rfl) | with_reducible refine dn_set ?_ | with_reducible refine dn_ret ?_ | with_reducible refine dn_retN ?_ | with_reducible refine dn_new ?_ | with_reducible refine dn_parN ?_ | with_reducible refine dn_par ?_ | with_reducible refine dn_pair ?_ | with_reducible refine dn_raise ?_ | ((with_reducible apply dn_app); rfl) | with_reducible refine dn_item ?_ | with_reducible refine sq_set ?_ | with_reducible refine sq_pair ?_ | with_reducible refine sq_par ?_ | with_reducible refine sq_parN ?_ | with_reducible refine sq_new ?_ | with_reducible refine sq_item ?_ | ((with_reducible apply sq_app); rfl) | refine ⟨_, _, _, rfl, rfl, rfl, ?_⟩ | refine ⟨_, rfl, ?_⟩ | refine ⟨⟨_, rfl⟩, ?_⟩ | refine ⟨Nat.le_of_ble_eq_true rfl, ?_⟩)
      exact ⟨_, rfl⟩
  obtain ⟨r, e, l, rfl⟩ := key
  exact ⟨l, e⟩
theorem wires_ok {A : Adr} {ds : List D} {W : Nat} (h : Rect ds W) : ∃ l, m__wires_of A [.tup ds] = some (.ok l) := by
  have hw := h.wid
  have hh := h.len
  obtain ⟨x0, hx0, hl0⟩ := ix0_ok h
  have key : ∃ r, m__wires_of A [.tup ds] = some (.ok r) ∧ True := by
    unfold m__wires_of
    refine fnX rfl (P := fun r => True) ?_
    repeat (first | with_reducible refine ok_op ?_ | with_reducible refine ok_un ?_ | with_reducible refine ok_cb ?_ | with_reducible refine ok_cons ?_ | with_reducible refine ok_nil ?_ | with_reducible refine ok_giv ?_ | with_reducible refine ok_lst ?_ | with_reducible refine ok_tup ?_ | with_reducible refine ok_dic ?_ | with_reducible refine ok_bool ?_ | with_reducible refine ok_not ?_ | with_reducible refine ok_notV ?_ | with_reducible refine ok_sl ?_ | with_reducible refine ok_part ?_ | with_reducible refine ok_join ?_ | with_reducible refine ok_it ?_ | with_reducible refine ok_itA ?_ | with_reducible refine ok_call0 ?_ | with_reducible refine ok_callN ?_ | with_reducible refine ok_chain ?_ | ((with_reducible apply ok_var); rfl) | ((with_reducible apply ok_varL); rfl) | ((with_reducible apply ok_ixN); rfl) | ((with_reducible apply ok_ixM); rfl) | ((with_reducible apply ok_lenN); rfl) | ((with_reducible apply ok_lenM); rfl) | ((with_reducible apply ok_callY); rfl) | with_reducible refine dn_set ?_ | with_reducible refine dn_ret ?_ | with_reducible refine dn_retN ?_ | with_reducible refine dn_new ?_ | with_reducible refine dn_parN ?_ | with_reducible refine dn_par ?_ | with_reducible refine dn_pair ?_ | with_reducible refine dn_raise ?_ | ((with_reducible apply dn_app); rfl) | with_reducible refine dn_item ?_ | with_reducible refine sq_set ?_ | with_reducible refine sq_pair ?_ | with_reducible refine sq_par ?_ | with_reducible refine sq_parN ?_ | with_reducible refine sq_new ?_ | with_reducible refine sq_item ?_ | ((with_reducible apply sq_app); rfl) | refine ⟨_, _, _, rfl, rfl, rfl, ?_⟩ | refine ⟨_, rfl, ?_⟩ | refine ⟨⟨_, rfl⟩, ?_⟩ | refine ⟨Nat.le_of_ble_eq_true rfl, ?_⟩)
    refine ok_lc (fun d => .tup [.str "column", d]) ?_
    repeat (first | with_reducible refine ok_op ?_ | with_reducible refine ok_un ?_ | with_reducible refine ok_cb ?_ | with_reducible refine ok_cons ?_ | with_reducible refine ok_nil ?_ | with_reducible refine ok_giv ?_ | with_reducible refine ok_lst ?_ | with_reducible refine ok_tup ?_ | with_reducible refine ok_dic ?_ | with_reducible refine ok_bool ?_ | with_reducible refine ok_not ?_ | with_reducible refine ok_notV ?_ | with_reducible refine ok_sl ?_ | with_reducible refine ok_part ?_ | with_reducible refine ok_join ?_ | with_reducible refine ok_it ?_ | with_reducible refine ok_itA ?_ | with_reducible refine ok_call0 ?_ | with_reducible refine ok_callN ?_ | with_reducible refine ok_chain ?_ | ((with_reducible apply ok_var); rfl) | ((with_reducible apply ok_varL); rfl) | ((with_reducible apply ok_ixN); rfl) | ((with_reducible apply ok_ixM); rfl) | ((with_reducible apply ok_lenN); rfl) | ((with_reducible apply ok_lenM); rfl) | ((with_reducible apply ok_callY); rfl) | with_reducible refine dn_set ?_ | with_reducible refine dn_ret ?_ | with_reducible refine dn_retN ?_ | with_reducible refine dn_new ?_ | with_reducible refine dn_parN ?_ | with_reducible refine dn_par ?_ | with_reducible refine dn_pair ?_ | with_reducible refine dn_raise ?_ | ((with_reducible apply dn_app); rfl) | with_reducible refine dn_item ?_ | with_reducible refine sq_set ?_ | with_reducible refine sq_pair ?_ | with_reducible refine sq_par ?_ | with_reducible refine sq_parN ?_ | with_reducible refine sq_new ?_ | with_reducible refine sq_item ?_ | ((with_reducible apply sq_app); rfl) | refine ⟨_, _, _, rfl, rfl, rfl, ?_⟩ | refine ⟨_, rfl, ?_⟩ | refine ⟨⟨_, rfl⟩, ?_⟩ | refine ⟨Nat.le_of_ble_eq_true rfl, ?_⟩)
    refine ⟨_, hx0, ?_⟩
    repeat (first | with_reducible refine ok_op ?_ | with_reducible refine ok_un ?_ | with_reducible refine ok_cb ?_ | with_reducible refine ok_cons ?_ | with_reducible refine ok_nil ?_ | with_reducible refine ok_giv ?_ | with_reducible refine ok_lst ?_ | with_reducible refine ok_tup ?_ | with_reducible refine ok_dic ?_ | with_reducible refine ok_bool ?_ | with_reducible refine ok_not ?_ | with_reducible refine ok_notV ?_ | with_reducible refine ok_sl ?_ | with_reducible refine ok_part ?_ | with_reducible refine ok_join ?_ | with_reducible refine ok_it ?_ | with_reducible refine ok_itA ?_ | with_reducible refine ok_call0 ?_ | with_reducible refine ok_callN ?_ | with_reducible refine ok_chain ?_ | ((with_reducible apply ok_var); rfl) | ((with_reducible apply ok_varL); rfl) | ((with_reducible apply ok_ixN); rfl) | ((with_reducible apply ok_ixM); rfl) | ((with_reducible apply ok_lenN); rfl) | ((with_reducible apply ok_lenM); rfl) | ((with_reducible apply ok_callY); rfl) | with_reducible refine dn_set ?_ | with_reducible refine dn_ret ?_ | with_reducible refine dn_retN ?_ | with_reducible refine dn_new ?_ | with_reducible refine dn_parN ?_ | with_reducible refine dn_par ?_ | with_reducible refine dn_pair ?_ | with_reducible refine dn_raise ?_ | ((with_reducible apply dn_app); rfl) | with_reducible refine dn_item ?_ | with_reducible refine sq_set ?_ | with_reducible refine sq_pair ?_ | with_reducible refine sq_par ?_ | with_reducible refine sq_parN ?_ | with_reducible refine sq_new ?_ | with_reducible refine sq_item ?_ | ((with_reducible apply sq_app); rfl) | refine ⟨_, _, _, rfl, rfl, rfl, ?_⟩ | refine ⟨_, rfl, ?_⟩ | refine ⟨⟨_, rfl⟩, ?_⟩ | refine ⟨Nat.le_of_ble_eq_true rfl, ?_⟩)
    refine ⟨_, hl0, ?_⟩
    repeat (first | with_reducible refine ok_op ?_ | with_reducible refine ok_un ?_ | with_reducible refine ok_cb ?_ | with_reducible refine ok_cons ?_ | with_reducible refine ok_nil ?_ | with_reducible refine ok_giv ?_ | with_reducible refine ok_lst ?_ | with_reducible refine ok_tup ?_ | with_reducible refine ok_dic ?_ | with_reducible refine ok_bool ?_ | with_reducible refine ok_not ?_ | with_reducible refine ok_notV ?_ | with_reducible refine ok_sl ?_ | with_reducible refine ok_part ?_ | with_reducible refine ok_join ?_ | with_reducible refine ok_it ?_ | with_reducible refine ok_itA ?_ | with_reducible refine ok_call0 ?_ | with_reducible refine ok_callN ?_ | with_reducible refine ok_chain ?_ | ((with_reducible apply ok_var); rfl) | ((with_reducible apply ok_varL); rfl) | ((with_reducible apply ok_ixN); rfl) | ((with_reducible apply ok_ixM); rfl) | ((with_reducible apply ok_lenN); rfl) | ((with_reducible apply ok_lenM); rfl) | ((with_reducible apply ok_callY); rfl) | with_reducible refine dn_set ?_ | with_reducible refine dn_ret ?_ | with_reducible refine dn_retN ?_ | with_reducible refine dn_new ?_ | with_reducible refine dn_parN ?_ | with_reducible refine dn_par ?_ | with_reducible refine dn_pair ?_ | with_reducible refine dn_raise ?_ | ((with_reducible apply dn_app); rfl) | with_reducible refine dn_item ?_ | with_reducible refine sq_set ?_ | with_reducible refine sq_pair ?_ | with_reducible refine sq_par ?_ | with_reducible refine sq_parN ?_ | with_reducible refine sq_new ?_ | with_reducible refine sq_item ?_ | ((with_reducible apply sq_app); rfl) | refine ⟨_, _, _, rfl, rfl, rfl, ?_⟩ | refine ⟨_, rfl, ?_⟩ | refine ⟨⟨_, rfl⟩, ?_⟩ | refine ⟨Nat.le_of_ble_eq_true rfl, ?_⟩)
    refine ⟨_, rng_nat (by omega), by rw [rng_len]; omega, fun d hd => ⟨_, rfl, ?_⟩, ?_⟩
    · repeat (first | with_reducible refine ok_op ?_ | with_reducible refine ok_un ?_ | with_reducible refine ok_cb ?_ | with_reducible refine ok_cons ?_ | with_reducible refine ok_nil ?_ | with_reducible refine ok_giv ?_ | with_reducible refine ok_lst ?_ | with_reducible refine ok_tup ?_ | with_reducible refine ok_dic ?_ | with_reducible refine ok_bool ?_ | with_reducible refine ok_not ?_ | with_reducible refine ok_notV ?_ | with_reducible refine ok_sl ?_ | with_reducible refine ok_part ?_ | with_reducible refine ok_join ?_ | with_reducible refine ok_it ?_ | with_reducible refine ok_itA ?_ | with_reducible refine ok_call0 ?_ | with_reducible refine ok_callN ?_ | with_reducible refine ok_chain ?_ | ((with_reducible apply ok_var); rfl) | ((with_reducible apply ok_varL); rfl) | ((with_reducible apply ok_ixN); rfl) | ((with_reducible apply ok_ixM); rfl) | ((with_reducible apply ok_lenN); rfl) | ((with_reducible apply ok_lenM); rfl) | ((with_reducible apply ok_callY); rfl) | with_reducible refine dn_set ?_ | with_reducible refine dn_ret ?_ | with_reducible refine dn_retN ?_ | with_reducible refine dn_new ?_ | with_reducible refine dn_parN ?_ | with_reducible refine dn_par ?_ | with_reducible refine dn_pair ?_ | with_reducible refine dn_raise ?_ | ((with_reducible apply dn_app); rfl) | with_reducible refine dn_item ?_ | with_reducible refine sq_set ?_ | with_reducible refine sq_pair ?_ | with_reducible refine sq_par ?_ | with_reducible refine sq_parN ?_ | with_reducible refine sq_new ?_ | with_reducible refine sq_item ?_ | ((with_reducible apply sq_app); rfl) | refine ⟨_, _, _, rfl, rfl, rfl, ?_⟩ | refine ⟨_, rfl, ?_⟩ | refine ⟨⟨_, rfl⟩, ?_⟩ | refine ⟨Nat.le_of_ble_eq_true rfl, ?_⟩)
      exact ⟨rfl, rfl⟩
    repeat (first | with_reducible refine ok_op ?_ | with_reducible refine ok_un ?_ | with_reducible refine ok_cb ?_ | with_reducible refine ok_cons ?_ | with_reducible refine ok_nil ?_ | with_reducible refine ok_giv ?_ | with_reducible refine ok_lst ?_ | with_reducible refine ok_tup ?_ | with_reducible refine ok_dic ?_ | with_reducible refine ok_bool ?_ | with_reducible refine ok_not ?_ | with_reducible refine ok_notV ?_ | with_reducible refine ok_sl ?_ | with_reducible refine ok_part ?_ | with_reducible refine ok_join ?_ | with_reducible refine ok_it ?_ | with_reducible refine ok_itA ?_ | with_reducible refine ok_call0 ?_ | with_reducible refine ok_callN ?_ | with_reducible refine ok_chain ?_ | ((with_reducible apply ok_var); rfl) | ((with_reducible apply ok_varL); rfl) | ((with_reducible apply ok_ixN); rfl) | ((with_reducible apply ok_ixM); rfl) | ((with_reducible apply ok_lenN); rfl) | ((with_reducible apply ok_lenM); rfl) | ((with_reducible apply ok_callY); rfl) | with_reducible refine dn_set ?_ | with_reducible refine dn_ret ?_ | with_reducible refine dn_retN ?_ | with_reducible refine dn_new ?_ | with_reducible refine dn_parN ?_ | with_reducible refine dn_par ?_ | with_reducible refine dn_pair ?_ | with_reducible refine dn_raise ?_ | ((with_reducible apply dn_app); rfl) | with_reducible refine dn_item ?_ | with_reducible refine sq_set ?_ | with_reducible refine sq_pair ?_ | with_reducible refine sq_par ?_ | with_reducible refine sq_parN ?_ | with_reducible refine sq_new ?_ | with_reducible refine sq_item ?_ | ((with_reducible apply sq_app); rfl) | refine ⟨_, _, _, rfl, rfl, rfl, ?_⟩ | refine ⟨_, rfl, ?_⟩ | refine ⟨⟨_, rfl⟩, ?_⟩ | refine ⟨Nat.le_of_ble_eq_true rfl, ?_⟩)
    refine ok_lc (fun d => .tup [.str "row", d]) ?_
    repeat (first | with_reducible refine ok_op ?_ | with_reducible refine ok_un ?_ | with_reducible refine ok_cb ?_ | with_reducible refine ok_cons ?_ | with_reducible refine ok_nil ?_ | with_reducible refine ok_giv ?_ | with_reducible refine ok_lst ?_ | with_reducible refine ok_tup ?_ | with_reducible refine ok_dic ?_ | with_reducible refine ok_bool ?_ | with_reducible refine ok_not ?_ | with_reducible refine ok_notV ?_ | with_reducible refine ok_sl ?_ | with_reducible refine ok_part ?_ | with_reducible refine ok_join ?_ | with_reducible refine ok_it ?_ | with_reducible refine ok_itA ?_ | with_reducible refine ok_call0 ?_ | with_reducible refine ok_callN ?_ | with_reducible refine ok_chain ?_ | ((with_reducible apply ok_var); rfl) | ((with_reducible apply ok_varL); rfl) | ((with_reducible apply ok_ixN); rfl) | ((with_reducible apply ok_ixM); rfl) | ((with_reducible apply ok_lenN); rfl) | ((with_reducible apply ok_lenM); rfl) | ((with_reducible apply ok_callY); rfl) | with_reducible refine dn_set ?_ | with_reducible refine dn_ret ?_ | with_reducible refine dn_retN ?_ | with_reducible refine dn_new ?_ | with_reducible refine dn_parN ?_ | with_reducible refine dn_par ?_ | with_reducible refine dn_pair ?_ | with_reducible refine dn_raise ?_ | ((with_reducible apply dn_app); rfl) | with_reducible refine dn_item ?_ | with_reducible refine sq_set ?_ | with_reducible refine sq_pair ?_ | with_reducible refine sq_par ?_ | with_reducible refine sq_parN ?_ | with_reducible refine sq_new ?_ | with_reducible refine sq_item ?_ | ((with_reducible apply sq_app); rfl) | refine ⟨_, _, _, rfl, rfl, rfl, ?_⟩ | refine ⟨_, rfl, ?_⟩ | refine ⟨⟨_, rfl⟩, ?_⟩ | refine ⟨Nat.le_of_ble_eq_true rfl, ?_⟩)
    refine ⟨_, rng_nat (by omega), by rw [rng_len]; omega, fun d hd => ⟨_, rfl, ?_⟩, ?_⟩
    · repeat (first | with_reducible refine ok_op ?_ | with_reducible refine ok_un ?_ | with_reducible refine ok_cb ?_ | with_reducible refine ok_cons ?_ | with_reducible refine ok_nil ?_ | with_reducible refine ok_giv ?_ | with_reducible refine ok_lst ?_ | with_reducible refine ok_tup ?_ | with_reducible refine ok_dic ?_ | with_reducible refine ok_bool ?_ | with_reducible refine ok_not ?_ | with_reducible refine ok_notV ?_ | with_reducible refine ok_sl ?_ | with_reducible refine ok_part ?_ | with_reducible refine ok_join ?_ | with_reducible refine ok_it ?_ | with_reducible refine ok_itA ?_ | with_reducible refine ok_call0 ?_ | with_reducible refine ok_callN ?_ | with_reducible refine ok_chain ?_ | ((with_reducible apply ok_var); rfl) | ((with_reducible apply ok_varL); rfl) | ((with_reducible apply ok_ixN); rfl) | ((with_reducible apply ok_ixM); rfl) | ((with_reducible apply ok_lenN); rfl) | ((with_reducible apply ok_lenM); rfl) | ((with_reducible apply ok_callY); rfl) | with_reducible refine dn_set ?_ | with_reducible refine dn_ret ?_ | with_reducible refine dn_retN ?_ | with_reducible refine dn_new ?_ | with_reducible refine dn_parN ?_ | with_reducible refine dn_par ?_ | with_reducible refine dn_pair ?_ | with_reducible refine dn_raise ?_ | ((with_reducible apply dn_app); rfl) | with_reducible refine dn_item ?_ | with_reducible refine sq_set ?_ | with_reducible refine sq_pair ?_ | with_reducible refine sq_par ?_ | with_reducible refine sq_parN ?_ | with_reducible refine sq_new ?_ | with_reducible refine sq_item ?_ | ((with_reducible apply sq_app); rfl) | refine ⟨_, _, _, rfl, rfl, rfl, ?_⟩ | refine ⟨_, rfl, ?_⟩ | refine ⟨⟨_, rfl⟩, ?_⟩ | refine ⟨Nat.le_of_ble_eq_true rfl, ?_⟩)
      exact ⟨rfl, rfl⟩
    refine ⟨_, add_ll (by simp; omega), ?_⟩
    repeat (first | with_reducible refine ok_op ?_ | with_reducible refine ok_un ?_ | with_reducible refine ok_cb ?_ | with_reducible refine ok_cons ?_ | with_reducible refine ok_nil ?_ | with_reducible refine ok_giv ?_ | with_reducible refine ok_lst ?_ | with_reducible refine ok_tup ?_ | with_reducible refine ok_dic ?_ | with_reducible refine ok_bool ?_ | with_reducible refine ok_not ?_ | with_reducible refine ok_notV ?_ | with_reducible refine ok_sl ?_ | with_reducible refine ok_part ?_ | with_reducible refine ok_join ?_ | with_reducible refine ok_it ?_ | with_reducible refine ok_itA ?_ | with_reducible refine ok_call0 ?_ | with_reducible refine ok_callN ?_ | with_reducible refine ok_chain ?_ | ((with_reducible apply ok_var); rfl) | ((with_reducible apply ok_varL); rfl) | ((with_reducible apply ok_ixN); rfl) | ((with_reducible apply ok_ixM); rfl) | ((with_reducible apply ok_lenN); rfl) | ((with_reducible apply ok_lenM); rfl) | ((with_reducible apply ok_callY); rfl) | with_reducible refine dn_set ?_ | with_reducible refine dn_ret ?_ | with_reducible refine dn_retN ?_ | with_reducible refine dn_new ?_ | with_reducible refine dn_parN ?_ | with_reducible refine dn_par ?_ | with_reducible refine dn_pair ?_ | with_reducible refine dn_raise ?_ | ((with_reducible apply dn_app); rfl) | with_reducible refine dn_item ?_ | with_reducible refine sq_set ?_ | with_reducible refine sq_pair ?_ | with_reducible refine sq_par ?_ | with_reducible refine sq_parN ?_ | with_reducible refine sq_new ?_ | with_reducible refine sq_item ?_ | ((with_reducible apply sq_app); rfl) | refine ⟨_, _, _, rfl, rfl, rfl, ?_⟩ | refine ⟨_, rfl, ?_⟩ | refine ⟨⟨_, rfl⟩, ?_⟩ | refine ⟨Nat.le_of_ble_eq_true rfl, ?_⟩)
    trivial
  obtain ⟨r, e, _⟩ := key
  exact ⟨r, e⟩
end L02
namespace L02
open PySem L2 Wd
theorem pr_rect {ds : List D} (h : prL ds = true) : Rect ds (hdL ds) ∧ 1 ≤ hdL ds ∧ ∀ d ∈ ds, ∃ x : Str, d = .str x ∧ x.length = hdL ds ∧ ∀ c ∈ x.cps.toList, sgB c = true := by
  unfold prL at h
  simp only [Bool.and_eq_true, decide_eq_true_eq, List.all_eq_true] at h
  obtain ⟨⟨h1, h2⟩, h3, h4⟩ := h
  have str : ∀ d ∈ ds, ∃ x : Str, d = .str x ∧ x.length = hdL ds ∧ ∀ c ∈ x.cps.toList, sgB c = true := fun d hd => by
    obtain ⟨x, rfl, a, b, c⟩ := row_str (h3 d hd)
    exact ⟨x, rfl, h4 _ hd, c⟩
  have ne : ds ≠ [] := fun e => by rw [e] at h1; exact absurd h1 (by decide)
  have wd : 1 ≤ hdL ds ∧ hdL ds ≤ 10 := by
    cases ds with
    | nil => exact absurd rfl ne
    | cons d r =>
      obtain ⟨x, rfl, a, b, c⟩ := row_str (h3 d (List.mem_cons_self ..))
      exact ⟨a, b⟩
  exact ⟨⟨ne, h2, wd.2, fun d hd => by obtain ⟨x, e, a, b⟩ := str d hd; exact ⟨x, e, a, fun c hc => sg_lt (b c hc)⟩⟩, wd.1, str⟩
section
variable {ε : Sl} {P : Out → Sl → Prop} {i : Nat} {me : M D} {n : S} {kn : Addr → Bool} {f : Str}
theorem dn_fld (h : Ok me ε fun d e => ∃ C gs, e[i]? = some (.mob C gs) ∧ (kn C && gs.all (fun x => decide (x.1 ≠ f)) && decide (gs.length < 900)) = true ∧ P .nx (e.set i (.mob C (gs ++ [(f, d)])))) : Dn (sFldS i kn f me) ε P :=
  dn_val (h.mono fun d e ⟨C, gs, h1, h2, q⟩ => ⟨.nx, _, by simp only [h1]; exact if_pos h2, q⟩)
theorem sq_fld (h : Ok me ε fun d e => ∃ C gs, e[i]? = some (.mob C gs) ∧ (kn C && gs.all (fun x => decide (x.1 ≠ f)) && decide (gs.length < 900)) = true ∧ Dn n (e.set i (.mob C (gs ++ [(f, d)]))) P) : Dn (sSeq (sFldS i kn f me) n) ε P :=
  dn_sNx (dn_fld (h.mono fun d e ⟨C, gs, h1, h2, q⟩ => ⟨C, gs, h1, h2, rfl, q⟩))
theorem ok_fldN {P : D → Sl → Prop} {fl : D → Option D} {C : Addr} {gs : List (Str × D)} (e : ε[i]? = some (.mob C gs)) (h : ∃ z, fl (.obj C gs) = some z ∧ P z ε) : Ok (mFldN fl i) ε P := by
  obtain ⟨z, h1, q⟩ := h
  exact ⟨z, ε, by unfold mFldN lif; rw [e]; simp only [h1], q⟩
end
theorem cond_ok {A : Adr} {v : D} (b : Bd 3 v) {C : Addr} {P : Bool → Sl → Prop} (hP : P (!(lB v)) (startS 2 (.mob C []) [v])) :
    Ok (mOr (mNot (mBool (mCall0 (m__are_rows A) (mCons (mVar 1) mNil)))) (mOr (mNot (mBool (mCall0 (m__none_is_empty A) (mCons (mVar 1) mNil)))) (mNot (mBool (mCall0 (m__none_is_empty A) (mCons (mCall0 (m__turned A) (mCons (mVar 1) mNil)) mNil)))))) (startS 2 (.mob C []) [v]) P := by
  have ar := are_rows_ok (A := A) b
  refine ok_or ?_
  repeat (first | with_reducible refine ok_op ?_ | with_reducible refine ok_un ?_ | with_reducible refine ok_cb ?_ | with_reducible refine ok_cons ?_ | with_reducible refine ok_nil ?_ | with_reducible refine ok_giv ?_ | with_reducible refine ok_lst ?_ | with_reducible refine ok_tup ?_ | with_reducible refine ok_dic ?_ | with_reducible refine ok_bool ?_ | with_reducible refine ok_not ?_ | with_reducible refine ok_notV ?_ | with_reducible refine ok_sl ?_ | with_reducible refine ok_part ?_ | with_reducible refine ok_join ?_ | with_reducible refine ok_it ?_ | with_reducible refine ok_itA ?_ | with_reducible refine ok_call0 ?_ | with_reducible refine ok_callN ?_ | with_reducible refine ok_chain ?_ | ((with_reducible apply ok_var); rfl) | ((with_reducible apply ok_varL); rfl) | ((with_reducible apply ok_ixN); rfl) | ((with_reducible apply ok_ixM); rfl) | ((with_reducible apply ok_lenN); rfl) | ((with_reducible apply ok_lenM); rfl) | ((with_reducible apply ok_callY); rfl) | with_reducible refine dn_set ?_ | with_reducible refine dn_ret ?_ | with_reducible refine dn_retN ?_ | with_reducible refine dn_new ?_ | with_reducible refine dn_parN ?_ | with_reducible refine dn_par ?_ | with_reducible refine dn_pair ?_ | with_reducible refine dn_raise ?_ | ((with_reducible apply dn_app); rfl) | with_reducible refine dn_item ?_ | with_reducible refine sq_set ?_ | with_reducible refine sq_pair ?_ | with_reducible refine sq_par ?_ | with_reducible refine sq_parN ?_ | with_reducible refine sq_new ?_ | with_reducible refine sq_item ?_ | ((with_reducible apply sq_app); rfl) | refine ⟨_, _, _, rfl, rfl, rfl, ?_⟩ | refine ⟨_, rfl, ?_⟩ | refine ⟨⟨_, rfl⟩, ?_⟩ | refine ⟨Nat.le_of_ble_eq_true rfl, ?_⟩)
  refine ⟨_, ar, _, rfl, fun h => ?_, fun h => ?_⟩
  · have e : lB v = false := by
      cases v <;> first | rfl | skip
      rename_i ds
      have h' : prL ds = false := by simpa using h
      show lbL ds = false
      unfold lbL
      rw [h', Bool.false_and]
    rw [e] at hP
    exact hP
  · cases v <;> first | (cases h; done) | skip
    rename_i ds
    have h1 : prL ds = true := by simpa using h
    obtain ⟨R, w1, str⟩ := pr_rect h1
    have hh := R.len
    have hw := R.wid
    have s1 : ∀ d ∈ ds, ∃ x : Str, d = .str x := fun d hd => by obtain ⟨x, e, _⟩ := R.str d hd; exact ⟨x, e⟩
    have hl : lB (.tup ds) = (ds.all oB && (List.range (hdL ds)).all (colB ds)) := by
      show lbL ds = _
      unfold lbL
      rw [h1, Bool.true_and]
    rw [hl] at hP
    refine ok_or ?_
    repeat (first | with_reducible refine ok_op ?_ | with_reducible refine ok_un ?_ | with_reducible refine ok_cb ?_ | with_reducible refine ok_cons ?_ | with_reducible refine ok_nil ?_ | with_reducible refine ok_giv ?_ | with_reducible refine ok_lst ?_ | with_reducible refine ok_tup ?_ | with_reducible refine ok_dic ?_ | with_reducible refine ok_bool ?_ | with_reducible refine ok_not ?_ | with_reducible refine ok_notV ?_ | with_reducible refine ok_sl ?_ | with_reducible refine ok_part ?_ | with_reducible refine ok_join ?_ | with_reducible refine ok_it ?_ | with_reducible refine ok_itA ?_ | with_reducible refine ok_call0 ?_ | with_reducible refine ok_callN ?_ | with_reducible refine ok_chain ?_ | ((with_reducible apply ok_var); rfl) | ((with_reducible apply ok_varL); rfl) | ((with_reducible apply ok_ixN); rfl) | ((with_reducible apply ok_ixM); rfl) | ((with_reducible apply ok_lenN); rfl) | ((with_reducible apply ok_lenM); rfl) | ((with_reducible apply ok_callY); rfl) | with_reducible refine dn_set ?_ | with_reducible refine dn_ret ?_ | with_reducible refine dn_retN ?_ | with_reducible refine dn_new ?_ | with_reducible refine dn_parN ?_ | with_reducible refine dn_par ?_ | with_reducible refine dn_pair ?_ | with_reducible refine dn_raise ?_ | ((with_reducible apply dn_app); rfl) | with_reducible refine dn_item ?_ | with_reducible refine sq_set ?_ | with_reducible refine sq_pair ?_ | with_reducible refine sq_par ?_ | with_reducible refine sq_parN ?_ | with_reducible refine sq_new ?_ | with_reducible refine sq_item ?_ | ((with_reducible apply sq_app); rfl) | refine ⟨_, _, _, rfl, rfl, rfl, ?_⟩ | refine ⟨_, rfl, ?_⟩ | refine ⟨⟨_, rfl⟩, ?_⟩ | refine ⟨Nat.le_of_ble_eq_true rfl, ?_⟩)
    refine ⟨_, none_ok s1 (by omega), _, rfl, fun h => ?_, fun h => ?_⟩
    · have h' : ds.all oB = false := by simpa using h
      rw [h', Bool.false_and] at hP
      exact hP
    · have h' : ds.all oB = true := by simpa using h
      rw [h', Bool.true_and] at hP
      repeat (first | with_reducible refine ok_op ?_ | with_reducible refine ok_un ?_ | with_reducible refine ok_cb ?_ | with_reducible refine ok_cons ?_ | with_reducible refine ok_nil ?_ | with_reducible refine ok_giv ?_ | with_reducible refine ok_lst ?_ | with_reducible refine ok_tup ?_ | with_reducible refine ok_dic ?_ | with_reducible refine ok_bool ?_ | with_reducible refine ok_not ?_ | with_reducible refine ok_notV ?_ | with_reducible refine ok_sl ?_ | with_reducible refine ok_part ?_ | with_reducible refine ok_join ?_ | with_reducible refine ok_it ?_ | with_reducible refine ok_itA ?_ | with_reducible refine ok_call0 ?_ | with_reducible refine ok_callN ?_ | with_reducible refine ok_chain ?_ | ((with_reducible apply ok_var); rfl) | ((with_reducible apply ok_varL); rfl) | ((with_reducible apply ok_ixN); rfl) | ((with_reducible apply ok_ixM); rfl) | ((with_reducible apply ok_lenN); rfl) | ((with_reducible apply ok_lenM); rfl) | ((with_reducible apply ok_callY); rfl) | with_reducible refine dn_set ?_ | with_reducible refine dn_ret ?_ | with_reducible refine dn_retN ?_ | with_reducible refine dn_new ?_ | with_reducible refine dn_parN ?_ | with_reducible refine dn_par ?_ | with_reducible refine dn_pair ?_ | with_reducible refine dn_raise ?_ | ((with_reducible apply dn_app); rfl) | with_reducible refine dn_item ?_ | with_reducible refine sq_set ?_ | with_reducible refine sq_pair ?_ | with_reducible refine sq_par ?_ | with_reducible refine sq_parN ?_ | with_reducible refine sq_new ?_ | with_reducible refine sq_item ?_ | ((with_reducible apply sq_app); rfl) | refine ⟨_, _, _, rfl, rfl, rfl, ?_⟩ | refine ⟨_, rfl, ?_⟩ | refine ⟨⟨_, rfl⟩, ?_⟩ | refine ⟨Nat.le_of_ble_eq_true rfl, ?_⟩)
      refine ⟨_, turned_ok R, ?_⟩
      repeat (first | with_reducible refine ok_op ?_ | with_reducible refine ok_un ?_ | with_reducible refine ok_cb ?_ | with_reducible refine ok_cons ?_ | with_reducible refine ok_nil ?_ | with_reducible refine ok_giv ?_ | with_reducible refine ok_lst ?_ | with_reducible refine ok_tup ?_ | with_reducible refine ok_dic ?_ | with_reducible refine ok_bool ?_ | with_reducible refine ok_not ?_ | with_reducible refine ok_notV ?_ | with_reducible refine ok_sl ?_ | with_reducible refine ok_part ?_ | with_reducible refine ok_join ?_ | with_reducible refine ok_it ?_ | with_reducible refine ok_itA ?_ | with_reducible refine ok_call0 ?_ | with_reducible refine ok_callN ?_ | with_reducible refine ok_chain ?_ | ((with_reducible apply ok_var); rfl) | ((with_reducible apply ok_varL); rfl) | ((with_reducible apply ok_ixN); rfl) | ((with_reducible apply ok_ixM); rfl) | ((with_reducible apply ok_lenN); rfl) | ((with_reducible apply ok_lenM); rfl) | ((with_reducible apply ok_callY); rfl) | with_reducible refine dn_set ?_ | with_reducible refine dn_ret ?_ | with_reducible refine dn_retN ?_ | with_reducible refine dn_new ?_ | with_reducible refine dn_parN ?_ | with_reducible refine dn_par ?_ | with_reducible refine dn_pair ?_ | with_reducible refine dn_raise ?_ | ((with_reducible apply dn_app); rfl) | with_reducible refine dn_item ?_ | with_reducible refine sq_set ?_ | with_reducible refine sq_pair ?_ | with_reducible refine sq_par ?_ | with_reducible refine sq_parN ?_ | with_reducible refine sq_new ?_ | with_reducible refine sq_item ?_ | ((with_reducible apply sq_app); rfl) | refine ⟨_, _, _, rfl, rfl, rfl, ?_⟩ | refine ⟨_, rfl, ?_⟩ | refine ⟨⟨_, rfl⟩, ?_⟩ | refine ⟨Nat.le_of_ble_eq_true rfl, ?_⟩)
      refine ⟨_, none_ok (fun d hd => by obtain ⟨j, _, rfl⟩ := List.mem_map.mp hd; exact ⟨_, rfl⟩) (by simp; omega), _, rfl, ?_⟩
      rw [cols_all]
      exact hP
theorem init_ok {A : Adr} (g : Good A) {v : D} (b : Bd 3 v) : (lB v = true → ∃ gs, m_Board___init__ A [v] = some (.ok gs)) ∧ (lB v = false → m_Board___init__ A [v] = some (.ex (A.a "BadBoard") v)) := by
  have kn := g.kn_Board
  constructor
  · intro h
    have bnd := cond_ok (A := A) b (C := A.a "Board") (P := fun b e => b = false ∧ e = startS 2 (.mob (A.a "Board") []) [v]) (by rw [h]; exact ⟨rfl, rfl⟩)
    cases v <;> first | (cases h; done) | skip
    rename_i ds
    have h' : lbL ds = true := h
    unfold lbL at h'
    simp only [Bool.and_eq_true] at h'
    obtain ⟨p1, p2, p3⟩ := h'
    obtain ⟨R, w1, str⟩ := pr_rect p1
    obtain ⟨x0, hx0, hl0⟩ := ix0_ok R
    obtain ⟨l1, e1⟩ := dots_ok (A := A) R
    obtain ⟨l2, e2⟩ := wires_ok (A := A) R
    have fine : ∀ s : S, (Dn s (startS 2 (.mob (A.a "Board") []) [.tup ds]) fun o e => o = .nx ∧ ∃ gs, mob0 (A.a "Board") e = some gs) → ∃ gs, arX 1 (runW (A.a "Board") 2 s) [.tup ds] = some (.ok gs) := fun s ⟨o, e, h1, h2, gs, h3⟩ => by
      subst h2
      refine ⟨gs, ?_⟩
      refine (arX_at (k := 1) rfl).trans ?_
      unfold runW
      rw [h1]
      simp only [h3, Option.map_some]
    unfold m_Board___init__
    refine fine _ (dn_sNx (dn_if (bnd.mono ?_)))
    rintro _ _ ⟨rfl, rfl⟩
    refine ⟨fun z => (nomatch z), fun _ => dn_nx ⟨rfl, sq_fld ?_⟩⟩
    repeat (first | with_reducible refine ok_op ?_ | with_reducible refine ok_un ?_ | with_reducible refine ok_cb ?_ | with_reducible refine ok_cons ?_ | with_reducible refine ok_nil ?_ | with_reducible refine ok_giv ?_ | with_reducible refine ok_lst ?_ | with_reducible refine ok_tup ?_ | with_reducible refine ok_dic ?_ | with_reducible refine ok_bool ?_ | with_reducible refine ok_not ?_ | with_reducible refine ok_notV ?_ | with_reducible refine ok_sl ?_ | with_reducible refine ok_part ?_ | with_reducible refine ok_join ?_ | with_reducible refine ok_it ?_ | with_reducible refine ok_itA ?_ | with_reducible refine ok_call0 ?_ | with_reducible refine ok_callN ?_ | with_reducible refine ok_chain ?_ | ((with_reducible apply ok_var); rfl) | ((with_reducible apply ok_varL); rfl) | ((with_reducible apply ok_ixN); rfl) | ((with_reducible apply ok_ixM); rfl) | ((with_reducible apply ok_lenN); rfl) | ((with_reducible apply ok_lenM); rfl) | ((with_reducible apply ok_callY); rfl) | with_reducible refine dn_set ?_ | with_reducible refine dn_ret ?_ | with_reducible refine dn_retN ?_ | with_reducible refine dn_new ?_ | with_reducible refine dn_parN ?_ | with_reducible refine dn_par ?_ | with_reducible refine dn_pair ?_ | with_reducible refine dn_raise ?_ | ((with_reducible apply dn_app); rfl) | with_reducible refine dn_item ?_ | with_reducible refine sq_set ?_ | with_reducible refine sq_pair ?_ | with_reducible refine sq_par ?_ | with_reducible refine sq_parN ?_ | with_reducible refine sq_new ?_ | with_reducible refine sq_item ?_ | ((with_reducible apply sq_app); rfl) | refine ⟨_, _, _, rfl, rfl, rfl, ?_⟩ | refine ⟨_, rfl, ?_⟩ | refine ⟨⟨_, rfl⟩, ?_⟩ | refine ⟨Nat.le_of_ble_eq_true rfl, ?_⟩)
    refine ⟨_, _, rfl, by rw [kn]; rfl, sq_fld ?_⟩
    repeat (first | with_reducible refine ok_op ?_ | with_reducible refine ok_un ?_ | with_reducible refine ok_cb ?_ | with_reducible refine ok_cons ?_ | with_reducible refine ok_nil ?_ | with_reducible refine ok_giv ?_ | with_reducible refine ok_lst ?_ | with_reducible refine ok_tup ?_ | with_reducible refine ok_dic ?_ | with_reducible refine ok_bool ?_ | with_reducible refine ok_not ?_ | with_reducible refine ok_notV ?_ | with_reducible refine ok_sl ?_ | with_reducible refine ok_part ?_ | with_reducible refine ok_join ?_ | with_reducible refine ok_it ?_ | with_reducible refine ok_itA ?_ | with_reducible refine ok_call0 ?_ | with_reducible refine ok_callN ?_ | with_reducible refine ok_chain ?_ | ((with_reducible apply ok_var); rfl) | ((with_reducible apply ok_varL); rfl) | ((with_reducible apply ok_ixN); rfl) | ((with_reducible apply ok_ixM); rfl) | ((with_reducible apply ok_lenN); rfl) | ((with_reducible apply ok_lenM); rfl) | ((with_reducible apply ok_callY); rfl) | with_reducible refine dn_set ?_ | with_reducible refine dn_ret ?_ | with_reducible refine dn_retN ?_ | with_reducible refine dn_new ?_ | with_reducible refine dn_parN ?_ | with_reducible refine dn_par ?_ | with_reducible refine dn_pair ?_ | with_reducible refine dn_raise ?_ | ((with_reducible apply dn_app); rfl) | with_reducible refine dn_item ?_ | with_reducible refine sq_set ?_ | with_reducible refine sq_pair ?_ | with_reducible refine sq_par ?_ | with_reducible refine sq_parN ?_ | with_reducible refine sq_new ?_ | with_reducible refine sq_item ?_ | ((with_reducible apply sq_app); rfl) | refine ⟨_, _, _, rfl, rfl, rfl, ?_⟩ | refine ⟨_, rfl, ?_⟩ | refine ⟨⟨_, rfl⟩, ?_⟩ | refine ⟨Nat.le_of_ble_eq_true rfl, ?_⟩)
    refine ⟨_, _, rfl, by rw [kn]; rfl, sq_fld ?_⟩
    repeat (first | with_reducible refine ok_op ?_ | with_reducible refine ok_un ?_ | with_reducible refine ok_cb ?_ | with_reducible refine ok_cons ?_ | with_reducible refine ok_nil ?_ | with_reducible refine ok_giv ?_ | with_reducible refine ok_lst ?_ | with_reducible refine ok_tup ?_ | with_reducible refine ok_dic ?_ | with_reducible refine ok_bool ?_ | with_reducible refine ok_not ?_ | with_reducible refine ok_notV ?_ | with_reducible refine ok_sl ?_ | with_reducible refine ok_part ?_ | with_reducible refine ok_join ?_ | with_reducible refine ok_it ?_ | with_reducible refine ok_itA ?_ | with_reducible refine ok_call0 ?_ | with_reducible refine ok_callN ?_ | with_reducible refine ok_chain ?_ | ((with_reducible apply ok_var); rfl) | ((with_reducible apply ok_varL); rfl) | ((with_reducible apply ok_ixN); rfl) | ((with_reducible apply ok_ixM); rfl) | ((with_reducible apply ok_lenN); rfl) | ((with_reducible apply ok_lenM); rfl) | ((with_reducible apply ok_callY); rfl) | with_reducible refine dn_set ?_ | with_reducible refine dn_ret ?_ | with_reducible refine dn_retN ?_ | with_reducible refine dn_new ?_ | with_reducible refine dn_parN ?_ | with_reducible refine dn_par ?_ | with_reducible refine dn_pair ?_ | with_reducible refine dn_raise ?_ | ((with_reducible apply dn_app); rfl) | with_reducible refine dn_item ?_ | with_reducible refine sq_set ?_ | with_reducible refine sq_pair ?_ | with_reducible refine sq_par ?_ | with_reducible refine sq_parN ?_ | with_reducible refine sq_new ?_ | with_reducible refine sq_item ?_ | ((with_reducible apply sq_app); rfl) | refine ⟨_, _, _, rfl, rfl, rfl, ?_⟩ | refine ⟨_, rfl, ?_⟩ | refine ⟨⟨_, rfl⟩, ?_⟩ | refine ⟨Nat.le_of_ble_eq_true rfl, ?_⟩)
    refine ⟨_, hx0, ?_⟩
    repeat (first | with_reducible refine ok_op ?_ | with_reducible refine ok_un ?_ | with_reducible refine ok_cb ?_ | with_reducible refine ok_cons ?_ | with_reducible refine ok_nil ?_ | with_reducible refine ok_giv ?_ | with_reducible refine ok_lst ?_ | with_reducible refine ok_tup ?_ | with_reducible refine ok_dic ?_ | with_reducible refine ok_bool ?_ | with_reducible refine ok_not ?_ | with_reducible refine ok_notV ?_ | with_reducible refine ok_sl ?_ | with_reducible refine ok_part ?_ | with_reducible refine ok_join ?_ | with_reducible refine ok_it ?_ | with_reducible refine ok_itA ?_ | with_reducible refine ok_call0 ?_ | with_reducible refine ok_callN ?_ | with_reducible refine ok_chain ?_ | ((with_reducible apply ok_var); rfl) | ((with_reducible apply ok_varL); rfl) | ((with_reducible apply ok_ixN); rfl) | ((with_reducible apply ok_ixM); rfl) | ((with_reducible apply ok_lenN); rfl) | ((with_reducible apply ok_lenM); rfl) | ((with_reducible apply ok_callY); rfl) | with_reducible refine dn_set ?_ | with_reducible refine dn_ret ?_ | with_reducible refine dn_retN ?_ | with_reducible refine dn_new ?_ | with_reducible refine dn_parN ?_ | with_reducible refine dn_par ?_ | with_reducible refine dn_pair ?_ | with_reducible refine dn_raise ?_ | ((with_reducible apply dn_app); rfl) | with_reducible refine dn_item ?_ | with_reducible refine sq_set ?_ | with_reducible refine sq_pair ?_ | with_reducible refine sq_par ?_ | with_reducible refine sq_parN ?_ | with_reducible refine sq_new ?_ | with_reducible refine sq_item ?_ | ((with_reducible apply sq_app); rfl) | refine ⟨_, _, _, rfl, rfl, rfl, ?_⟩ | refine ⟨_, rfl, ?_⟩ | refine ⟨⟨_, rfl⟩, ?_⟩ | refine ⟨Nat.le_of_ble_eq_true rfl, ?_⟩)
    refine ⟨_, hl0, _, _, rfl, by rw [kn]; rfl, sq_fld ?_⟩
    repeat (first | with_reducible refine ok_op ?_ | with_reducible refine ok_un ?_ | with_reducible refine ok_cb ?_ | with_reducible refine ok_cons ?_ | with_reducible refine ok_nil ?_ | with_reducible refine ok_giv ?_ | with_reducible refine ok_lst ?_ | with_reducible refine ok_tup ?_ | with_reducible refine ok_dic ?_ | with_reducible refine ok_bool ?_ | with_reducible refine ok_not ?_ | with_reducible refine ok_notV ?_ | with_reducible refine ok_sl ?_ | with_reducible refine ok_part ?_ | with_reducible refine ok_join ?_ | with_reducible refine ok_it ?_ | with_reducible refine ok_itA ?_ | with_reducible refine ok_call0 ?_ | with_reducible refine ok_callN ?_ | with_reducible refine ok_chain ?_ | ((with_reducible apply ok_var); rfl) | ((with_reducible apply ok_varL); rfl) | ((with_reducible apply ok_ixN); rfl) | ((with_reducible apply ok_ixM); rfl) | ((with_reducible apply ok_lenN); rfl) | ((with_reducible apply ok_lenM); rfl) | ((with_reducible apply ok_callY); rfl) | with_reducible refine dn_set ?_ | with_reducible refine dn_ret ?_ | with_reducible refine dn_retN ?_ | with_reducible refine dn_new ?_ | with_reducible refine dn_parN ?_ | with_reducible refine dn_par ?_ | with_reducible refine dn_pair ?_ | with_reducible refine dn_raise ?_ | ((with_reducible apply dn_app); rfl) | with_reducible refine dn_item ?_ | with_reducible refine sq_set ?_ | with_reducible refine sq_pair ?_ | with_reducible refine sq_par ?_ | with_reducible refine sq_parN ?_ | with_reducible refine sq_new ?_ | with_reducible refine sq_item ?_ | ((with_reducible apply sq_app); rfl) | refine ⟨_, _, _, rfl, rfl, rfl, ?_⟩ | refine ⟨_, rfl, ?_⟩ | refine ⟨⟨_, rfl⟩, ?_⟩ | refine ⟨Nat.le_of_ble_eq_true rfl, ?_⟩)
    refine ⟨_, e1, _, _, rfl, by rw [kn]; rfl, sq_fld ?_⟩
    repeat (first | with_reducible refine ok_op ?_ | with_reducible refine ok_un ?_ | with_reducible refine ok_cb ?_ | with_reducible refine ok_cons ?_ | with_reducible refine ok_nil ?_ | with_reducible refine ok_giv ?_ | with_reducible refine ok_lst ?_ | with_reducible refine ok_tup ?_ | with_reducible refine ok_dic ?_ | with_reducible refine ok_bool ?_ | with_reducible refine ok_not ?_ | with_reducible refine ok_notV ?_ | with_reducible refine ok_sl ?_ | with_reducible refine ok_part ?_ | with_reducible refine ok_join ?_ | with_reducible refine ok_it ?_ | with_reducible refine ok_itA ?_ | with_reducible refine ok_call0 ?_ | with_reducible refine ok_callN ?_ | with_reducible refine ok_chain ?_ | ((with_reducible apply ok_var); rfl) | ((with_reducible apply ok_varL); rfl) | ((with_reducible apply ok_ixN); rfl) | ((with_reducible apply ok_ixM); rfl) | ((with_reducible apply ok_lenN); rfl) | ((with_reducible apply ok_lenM); rfl) | ((with_reducible apply ok_callY); rfl) | with_reducible refine dn_set ?_ | with_reducible refine dn_ret ?_ | with_reducible refine dn_retN ?_ | with_reducible refine dn_new ?_ | with_reducible refine dn_parN ?_ | with_reducible refine dn_par ?_ | with_reducible refine dn_pair ?_ | with_reducible refine dn_raise ?_ | ((with_reducible apply dn_app); rfl) | with_reducible refine dn_item ?_ | with_reducible refine sq_set ?_ | with_reducible refine sq_pair ?_ | with_reducible refine sq_par ?_ | with_reducible refine sq_parN ?_ | with_reducible refine sq_new ?_ | with_reducible refine sq_item ?_ | ((with_reducible apply sq_app); rfl) | refine ⟨_, _, _, rfl, rfl, rfl, ?_⟩ | refine ⟨_, rfl, ?_⟩ | refine ⟨⟨_, rfl⟩, ?_⟩ | refine ⟨Nat.le_of_ble_eq_true rfl, ?_⟩)
    refine ⟨_, e2, _, _, rfl, by rw [kn]; rfl, dn_fld ?_⟩
    have fl : ∀ (f : String) (gs : List (Str × D)) (d : D), gs.lookup (f : Str) = some d → flK A f (.obj (A.a "Board") gs) = some d := fun f gs d h => by
      show (if A.kn (A.a "Board") = true then gs.lookup (f : Str) else none) = _
      rw [if_pos kn]
      exact h
    refine ok_op (ok_cb (ok_cons (ok_fldN rfl ⟨_, fl "dots" _ (.tup l1) rfl, ok_nil ⟨_, rfl, ok_op (ok_fldN rfl ⟨_, fl "height" _ (.int (ds.length : Int)) rfl, ok_fldN rfl ⟨_, fl "width" _ (.int (hdL ds : Int)) rfl, ⟨_, mul_ii (by omega) (by have := R.len; omega), ⟨_, rfl, _, _, rfl, by rw [kn]; rfl, rfl, ?_⟩⟩⟩⟩)⟩⟩)))
    have fin : ∀ (gs : List (Str × D)) (r : Sl), mob0 (A.a "Board") (.mob (A.a "Board") gs :: r) = some gs := fun gs r => if_pos rfl
    exact ⟨_, fin _ _⟩
  · intro h
    have bnd := cond_ok (A := A) b (C := A.a "Board") (P := fun b e => b = true ∧ e = startS 2 (.mob (A.a "Board") []) [v]) (by rw [h]; exact ⟨rfl, rfl⟩)
    have bad : ∀ s : S, (Dn s (startS 2 (.mob (A.a "Board") []) [v]) fun o _ => o = .ex (A.a "BadBoard") v) → arX 1 (runW (A.a "Board") 2 s) [v] = some (.ex (A.a "BadBoard") v) := fun s ⟨o, e, h1, h2⟩ => by
      subst h2
      refine (arX_at (k := 1) rfl).trans ?_
      unfold runW
      rw [h1]
    unfold m_Board___init__
    refine bad _ (dn_seq (dn_if (bnd.mono ?_)))
    rintro _ _ ⟨rfl, rfl⟩
    refine ⟨fun _ => ?_, fun z => (nomatch z)⟩
    repeat (first | with_reducible refine ok_op ?_ | with_reducible refine ok_un ?_ | with_reducible refine ok_cb ?_ | with_reducible refine ok_cons ?_ | with_reducible refine ok_nil ?_ | with_reducible refine ok_giv ?_ | with_reducible refine ok_lst ?_ | with_reducible refine ok_tup ?_ | with_reducible refine ok_dic ?_ | with_reducible refine ok_bool ?_ | with_reducible refine ok_not ?_ | with_reducible refine ok_notV ?_ | with_reducible refine ok_sl ?_ | with_reducible refine ok_part ?_ | with_reducible refine ok_join ?_ | with_reducible refine ok_it ?_ | with_reducible refine ok_itA ?_ | with_reducible refine ok_call0 ?_ | with_reducible refine ok_callN ?_ | with_reducible refine ok_chain ?_ | ((with_reducible apply ok_var); rfl) | ((with_reducible apply ok_varL); rfl) | ((with_reducible apply ok_ixN); rfl) | ((with_reducible apply ok_ixM); rfl) | ((with_reducible apply ok_lenN); rfl) | ((with_reducible apply ok_lenM); rfl) | ((with_reducible apply ok_callY); rfl) | with_reducible refine dn_set ?_ | with_reducible refine dn_ret ?_ | with_reducible refine dn_retN ?_ | with_reducible refine dn_new ?_ | with_reducible refine dn_parN ?_ | with_reducible refine dn_par ?_ | with_reducible refine dn_pair ?_ | with_reducible refine dn_raise ?_ | ((with_reducible apply dn_app); rfl) | with_reducible refine dn_item ?_ | with_reducible refine sq_set ?_ | with_reducible refine sq_pair ?_ | with_reducible refine sq_par ?_ | with_reducible refine sq_parN ?_ | with_reducible refine sq_new ?_ | with_reducible refine sq_item ?_ | ((with_reducible apply sq_app); rfl) | refine ⟨_, _, _, rfl, rfl, rfl, ?_⟩ | refine ⟨_, rfl, ?_⟩ | refine ⟨⟨_, rfl⟩, ?_⟩ | refine ⟨Nat.le_of_ble_eq_true rfl, ?_⟩)
    exact ⟨(fun z => nomatch z), fun _ => rfl⟩
end L02
namespace L02
open PySem L2 Wd
def strs? (ds : List D) : Bool := ds.all D.kStr
theorem kstr {d : D} (h : D.kStr d = true) : ∃ x : Str, d = .str x := by
  cases d <;> first | (cases h; done) | exact ⟨_, rfl⟩
/-- the signs of a text -/
def sgD : D → Bool
  | .str x => x.cps.toList.all sgB
  | _ => false
theorem row_iff {x : Str} : rowB (.str x) = ((decide (1 ≤ x.length) && decide (x.length ≤ 10)) && sgD (.str x)) := rfl
theorem str_map : ∀ {ds : List D}, (∀ d ∈ ds, ∃ x : Str, d = .str x) → ∃ xs : List Str, ds = xs.map D.str
  | [], _ => ⟨[], rfl⟩
  | d :: r, h => by
    obtain ⟨x, rfl⟩ := h d (List.mem_cons_self ..)
    obtain ⟨xs, rfl⟩ := str_map (ds := r) fun y hy => h y (List.mem_cons_of_mem _ hy)
    exact ⟨x :: xs, rfl⟩
theorem join_all {xs : List Str} : ((Txt.join "" xs).cps.toList.all sgB) = (xs.map D.str).all sgD := by
  rw [join_list, List.all_flatten, List.all_map, List.all_map]
  rfl
theorem lst_in {cs : List Nat} (h : ∀ c ∈ cs, c < 1114112) : inF (.str "o") (.lst (cs.map fun c => .str ⟨#[c]⟩)) = some (.bl (decide (111 ∈ cs))) := by
  have ok : ∀ y : Str, PyData.strOk y = true → PlN 0 (.str y) := fun y h => pln_str h
  have p1 : plB (.str "o") = true := (ok _ (by decide +kernel)).b
  have p2 : plB (.lst (cs.map fun c => .str ⟨#[c]⟩)) = true := (pln_lst (n := 0) fun d hd => by
    obtain ⟨c, hc, rfl⟩ := List.mem_map.mp hd
    exact ok _ (by show (#[c] : Array Nat).all _ = true; simp; exact h c hc)).b
  show (if plB (.str "o") && plB (.lst (cs.map fun c => .str ⟨#[c]⟩)) then some ((cs.map fun c => D.str ⟨#[c]⟩).any fun z => PyData.eqv z.py (D.str "o").py) else none).map D.bl = _
  rw [p1, p2]
  show some (D.bl ((cs.map fun c => D.str ⟨#[c]⟩).any fun z => PyData.eqv z.py (D.str "o").py)) = _
  congr 2
  rw [List.any_map]
  clear p2 h
  induction cs with
  | nil => rfl
  | cons c r ih =>
    rw [List.any_cons, ih]
    have e : PyData.eqv (D.str ⟨#[c]⟩).py (D.str "o").py = decide (c = 111) := by
      have := eqv_iff (.str ⟨#[c]⟩) (.str "o") (by simp [D.noB]) (by simp [D.noB])
      by_cases q : c = 111
      · subst q; rw [decide_eq_true rfl]; exact this.mpr rfl
      · rw [decide_eq_false q]
        cases z : PyData.eqv (D.str ⟨#[c]⟩).py (D.str "o").py with
        | false => rfl
        | true =>
          have e2 := D.str.inj (this.mp z)
          have e3 := congrArg (fun s : Str => s.cps.toList) e2
          have t : (("o" : String) : Str).cps.toList = [111] := by decide
          simp only [t] at e3
          injection e3 with e4
          exact absurd e4 q
    show (PyData.eqv (D.str ⟨#[c]⟩).py (D.str "o").py || decide (111 ∈ r)) = decide (111 ∈ c :: r)
    rw [e]
    by_cases q : c = 111
    · subst q; simp
    · have q' : ¬ 111 = c := fun z => q z.symm
      simp [q, q']
theorem all_congr {p q : D → Bool} : ∀ {ds : List D}, (∀ d ∈ ds, p d = q d) → ds.all p = ds.all q
  | [], _ => rfl
  | d :: r, h => by rw [List.all_cons, List.all_cons, h d (List.mem_cons_self ..), all_congr fun x hx => h x (List.mem_cons_of_mem _ hx)]
theorem chain_var {ε : Sl} {i : Nat} {n : Nat} {P : D → Sl → Prop} (e : ε[i]? = some (.dat (.int (n : Int)))) (h : P (.bl (decide (1 ≤ n) && decide (n ≤ 10))) ε) : Ok (mChain leF leF (giv (.int 1)) (mVar i) (giv (.int 10))) ε P := by
  refine ok_chain (ok_giv (ok_var e ⟨_, le_ii, fun h1 => ok_giv ⟨_, le_ii, ?_⟩, fun h1 => ?_⟩))
  · have h1 := of_decide_eq_true h1
    rw [decide_eq_true (show 1 ≤ n by omega), Bool.true_and] at h
    by_cases q : n ≤ 10
    · rw [decide_eq_true q] at h; rw [decide_eq_true (by omega)]; exact h
    · rw [decide_eq_false q] at h; rw [decide_eq_false (by omega)]; exact h
  · have h1 := of_decide_eq_false h1
    rw [decide_eq_false (show ¬ 1 ≤ n by omega), Bool.false_and] at h
    exact h
theorem join_tup {ds : List D} {xs : List Str} (e : ds = xs.map D.str) (h : ∀ x ∈ xs, x.length ≤ 10) (hl : xs.length ≤ 10) : joinF (.str "") (.tup ds) = some (.str (Txt.join "" xs)) := by
  subst e
  show (match strsL (xs.map D.str) with | some ys => if (ys.map fun y : Str => y.length).sum + ys.length * ("" : Str).length ≤ 16777216 then some (D.str (Txt.join "" ys)) else none | none => none) = _
  rw [strs_str]
  refine if_pos ?_
  have := PySem.StrLaws.sumLen_le (B := 10) xs h
  show (xs.map fun y : Str => y.length).sum + xs.length * 0 ≤ 16777216
  have e : (xs.map fun y : Str => y.length).sum = (xs.map (·.length)).sum := rfl
  omega
theorem join_len {xs : List Str} (h : ∀ x ∈ xs, x.length ≤ 10) (hl : xs.length ≤ 10) : (Txt.join "" xs).cps.toList.length ≤ 1000 := by
  have := PySem.StrLaws.sumLen_le (B := 10) xs h
  rw [join_list, List.length_flatten, List.map_map]
  have e : (xs.map (List.length ∘ fun y : Str => y.cps.toList)).sum = (xs.map (·.length)).sum := by
    congr 1
  omega
theorem law_are_ok {A : Adr} {v : D} (b : Bd 3 v) : m__law_are_rows A [v] = some (.ok (.bl (lB v))) := by
  have key : ∃ r, m__law_are_rows A [v] = some (.ok r) ∧ r = .bl (lB v) := by
    unfold m__law_are_rows
    refine fnX rfl (P := fun r => r = .bl (lB v)) ?_
    refine dn_seq (dn_if (ok_or ?_))
    repeat (first | with_reducible refine ok_op ?_ | with_reducible refine ok_un ?_ | with_reducible refine ok_cb ?_ | with_reducible refine ok_cons ?_ | with_reducible refine ok_nil ?_ | with_reducible refine ok_giv ?_ | with_reducible refine ok_lst ?_ | with_reducible refine ok_tup ?_ | with_reducible refine ok_dic ?_ | with_reducible refine ok_bool ?_ | with_reducible refine ok_not ?_ | with_reducible refine ok_notV ?_ | with_reducible refine ok_sl ?_ | with_reducible refine ok_part ?_ | with_reducible refine ok_join ?_ | with_reducible refine ok_it ?_ | with_reducible refine ok_itA ?_ | with_reducible refine ok_call0 ?_ | with_reducible refine ok_callN ?_ | with_reducible refine ok_chain ?_ | ((with_reducible apply ok_var); rfl) | ((with_reducible apply ok_varL); rfl) | ((with_reducible apply ok_ixN); rfl) | ((with_reducible apply ok_ixM); rfl) | ((with_reducible apply ok_lenN); rfl) | ((with_reducible apply ok_lenM); rfl) | ((with_reducible apply ok_callY); rfl) | with_reducible refine dn_set ?_ | with_reducible refine dn_ret ?_ | with_reducible refine dn_retN ?_ | with_reducible refine dn_new ?_ | with_reducible refine dn_parN ?_ | with_reducible refine dn_par ?_ | with_reducible refine dn_pair ?_ | with_reducible refine dn_raise ?_ | ((with_reducible apply dn_app); rfl) | with_reducible refine dn_item ?_ | with_reducible refine sq_set ?_ | with_reducible refine sq_pair ?_ | with_reducible refine sq_par ?_ | with_reducible refine sq_parN ?_ | with_reducible refine sq_new ?_ | with_reducible refine sq_item ?_ | ((with_reducible apply sq_app); rfl) | refine ⟨_, _, _, rfl, rfl, rfl, ?_⟩ | refine ⟨_, rfl, ?_⟩ | refine ⟨⟨_, rfl⟩, ?_⟩ | refine ⟨Nat.le_of_ble_eq_true rfl, ?_⟩)
    refine ⟨_, is_ty b, _, rfl, fun h => ⟨fun _ => ?_, fun z => (nomatch z)⟩, fun h => ok_or ?_⟩
    · repeat (first | with_reducible refine ok_op ?_ | with_reducible refine ok_un ?_ | with_reducible refine ok_cb ?_ | with_reducible refine ok_cons ?_ | with_reducible refine ok_nil ?_ | with_reducible refine ok_giv ?_ | with_reducible refine ok_lst ?_ | with_reducible refine ok_tup ?_ | with_reducible refine ok_dic ?_ | with_reducible refine ok_bool ?_ | with_reducible refine ok_not ?_ | with_reducible refine ok_notV ?_ | with_reducible refine ok_sl ?_ | with_reducible refine ok_part ?_ | with_reducible refine ok_join ?_ | with_reducible refine ok_it ?_ | with_reducible refine ok_itA ?_ | with_reducible refine ok_call0 ?_ | with_reducible refine ok_callN ?_ | with_reducible refine ok_chain ?_ | ((with_reducible apply ok_var); rfl) | ((with_reducible apply ok_varL); rfl) | ((with_reducible apply ok_ixN); rfl) | ((with_reducible apply ok_ixM); rfl) | ((with_reducible apply ok_lenN); rfl) | ((with_reducible apply ok_lenM); rfl) | ((with_reducible apply ok_callY); rfl) | with_reducible refine dn_set ?_ | with_reducible refine dn_ret ?_ | with_reducible refine dn_retN ?_ | with_reducible refine dn_new ?_ | with_reducible refine dn_parN ?_ | with_reducible refine dn_par ?_ | with_reducible refine dn_pair ?_ | with_reducible refine dn_raise ?_ | ((with_reducible apply dn_app); rfl) | with_reducible refine dn_item ?_ | with_reducible refine sq_set ?_ | with_reducible refine sq_pair ?_ | with_reducible refine sq_par ?_ | with_reducible refine sq_parN ?_ | with_reducible refine sq_new ?_ | with_reducible refine sq_item ?_ | ((with_reducible apply sq_app); rfl) | refine ⟨_, _, _, rfl, rfl, rfl, ?_⟩ | refine ⟨_, rfl, ?_⟩ | refine ⟨⟨_, rfl⟩, ?_⟩ | refine ⟨Nat.le_of_ble_eq_true rfl, ?_⟩)
      refine ⟨(fun z => nomatch z), fun _ => ⟨_, rfl, ?_⟩⟩
      cases v <;> first | rfl | cases h
    cases v <;> first | (cases h; done) | skip
    rename_i ds
    have bd : ∀ d ∈ ds, Bd 2 d := by cases b with | tup _ _ _ h => exact h
    show Ok _ _ _
    refine ok_not (ok_bool (chain_len rfl len_t ⟨_, rfl, fun h1 => ⟨fun _ => ?_, fun z => (nomatch z)⟩, fun h1 => ?_⟩))
    · repeat (first | with_reducible refine ok_op ?_ | with_reducible refine ok_un ?_ | with_reducible refine ok_cb ?_ | with_reducible refine ok_cons ?_ | with_reducible refine ok_nil ?_ | with_reducible refine ok_giv ?_ | with_reducible refine ok_lst ?_ | with_reducible refine ok_tup ?_ | with_reducible refine ok_dic ?_ | with_reducible refine ok_bool ?_ | with_reducible refine ok_not ?_ | with_reducible refine ok_notV ?_ | with_reducible refine ok_sl ?_ | with_reducible refine ok_part ?_ | with_reducible refine ok_join ?_ | with_reducible refine ok_it ?_ | with_reducible refine ok_itA ?_ | with_reducible refine ok_call0 ?_ | with_reducible refine ok_callN ?_ | with_reducible refine ok_chain ?_ | ((with_reducible apply ok_var); rfl) | ((with_reducible apply ok_varL); rfl) | ((with_reducible apply ok_ixN); rfl) | ((with_reducible apply ok_ixM); rfl) | ((with_reducible apply ok_lenN); rfl) | ((with_reducible apply ok_lenM); rfl) | ((with_reducible apply ok_callY); rfl) | with_reducible refine dn_set ?_ | with_reducible refine dn_ret ?_ | with_reducible refine dn_retN ?_ | with_reducible refine dn_new ?_ | with_reducible refine dn_parN ?_ | with_reducible refine dn_par ?_ | with_reducible refine dn_pair ?_ | with_reducible refine dn_raise ?_ | ((with_reducible apply dn_app); rfl) | with_reducible refine dn_item ?_ | with_reducible refine sq_set ?_ | with_reducible refine sq_pair ?_ | with_reducible refine sq_par ?_ | with_reducible refine sq_parN ?_ | with_reducible refine sq_new ?_ | with_reducible refine sq_item ?_ | ((with_reducible apply sq_app); rfl) | refine ⟨_, _, _, rfl, rfl, rfl, ?_⟩ | refine ⟨_, rfl, ?_⟩ | refine ⟨⟨_, rfl⟩, ?_⟩ | refine ⟨Nat.le_of_ble_eq_true rfl, ?_⟩)
      refine ⟨(fun z => nomatch z), fun _ => ⟨_, rfl, ?_⟩⟩
      rw [Bool.not_eq_true'] at h1
      show _ = D.bl (lbL ds)
      unfold lbL prL
      rw [h1, Bool.false_and, Bool.false_and]
    rw [Bool.not_eq_false'] at h1
    have h2 := h1
    simp only [Bool.and_eq_true, decide_eq_true_eq] at h2
    refine ok_not (ok_bool (ok_cb (ok_cons (ok_lc (fun d => .bl (D.kStr d)) ?_))))
    repeat (first | with_reducible refine ok_op ?_ | with_reducible refine ok_un ?_ | with_reducible refine ok_cb ?_ | with_reducible refine ok_cons ?_ | with_reducible refine ok_nil ?_ | with_reducible refine ok_giv ?_ | with_reducible refine ok_lst ?_ | with_reducible refine ok_tup ?_ | with_reducible refine ok_dic ?_ | with_reducible refine ok_bool ?_ | with_reducible refine ok_not ?_ | with_reducible refine ok_notV ?_ | with_reducible refine ok_sl ?_ | with_reducible refine ok_part ?_ | with_reducible refine ok_join ?_ | with_reducible refine ok_it ?_ | with_reducible refine ok_itA ?_ | with_reducible refine ok_call0 ?_ | with_reducible refine ok_callN ?_ | with_reducible refine ok_chain ?_ | ((with_reducible apply ok_var); rfl) | ((with_reducible apply ok_varL); rfl) | ((with_reducible apply ok_ixN); rfl) | ((with_reducible apply ok_ixM); rfl) | ((with_reducible apply ok_lenN); rfl) | ((with_reducible apply ok_lenM); rfl) | ((with_reducible apply ok_callY); rfl) | with_reducible refine dn_set ?_ | with_reducible refine dn_ret ?_ | with_reducible refine dn_retN ?_ | with_reducible refine dn_new ?_ | with_reducible refine dn_parN ?_ | with_reducible refine dn_par ?_ | with_reducible refine dn_pair ?_ | with_reducible refine dn_raise ?_ | ((with_reducible apply dn_app); rfl) | with_reducible refine dn_item ?_ | with_reducible refine sq_set ?_ | with_reducible refine sq_pair ?_ | with_reducible refine sq_par ?_ | with_reducible refine sq_parN ?_ | with_reducible refine sq_new ?_ | with_reducible refine sq_item ?_ | ((with_reducible apply sq_app); rfl) | refine ⟨_, _, _, rfl, rfl, rfl, ?_⟩ | refine ⟨_, rfl, ?_⟩ | refine ⟨⟨_, rfl⟩, ?_⟩ | refine ⟨Nat.le_of_ble_eq_true rfl, ?_⟩)
    refine ⟨by omega, fun d hd => ⟨_, rfl, ?_⟩, ?_⟩
    · repeat (first | with_reducible refine ok_op ?_ | with_reducible refine ok_un ?_ | with_reducible refine ok_cb ?_ | with_reducible refine ok_cons ?_ | with_reducible refine ok_nil ?_ | with_reducible refine ok_giv ?_ | with_reducible refine ok_lst ?_ | with_reducible refine ok_tup ?_ | with_reducible refine ok_dic ?_ | with_reducible refine ok_bool ?_ | with_reducible refine ok_not ?_ | with_reducible refine ok_notV ?_ | with_reducible refine ok_sl ?_ | with_reducible refine ok_part ?_ | with_reducible refine ok_join ?_ | with_reducible refine ok_it ?_ | with_reducible refine ok_itA ?_ | with_reducible refine ok_call0 ?_ | with_reducible refine ok_callN ?_ | with_reducible refine ok_chain ?_ | ((with_reducible apply ok_var); rfl) | ((with_reducible apply ok_varL); rfl) | ((with_reducible apply ok_ixN); rfl) | ((with_reducible apply ok_ixM); rfl) | ((with_reducible apply ok_lenN); rfl) | ((with_reducible apply ok_lenM); rfl) | ((with_reducible apply ok_callY); rfl) | with_reducible refine dn_set ?_ | with_reducible refine dn_ret ?_ | with_reducible refine dn_retN ?_ | with_reducible refine dn_new ?_ | with_reducible refine dn_parN ?_ | with_reducible refine dn_par ?_ | with_reducible refine dn_pair ?_ | with_reducible refine dn_raise ?_ | ((with_reducible apply dn_app); rfl) | with_reducible refine dn_item ?_ | with_reducible refine sq_set ?_ | with_reducible refine sq_pair ?_ | with_reducible refine sq_par ?_ | with_reducible refine sq_parN ?_ | with_reducible refine sq_new ?_ | with_reducible refine sq_item ?_ | ((with_reducible apply sq_app); rfl) | refine ⟨_, _, _, rfl, rfl, rfl, ?_⟩ | refine ⟨_, rfl, ?_⟩ | refine ⟨⟨_, rfl⟩, ?_⟩ | refine ⟨Nat.le_of_ble_eq_true rfl, ?_⟩)
      exact ⟨_, is_ty (bd d hd), rfl, rfl⟩
    repeat (first | with_reducible refine ok_op ?_ | with_reducible refine ok_un ?_ | with_reducible refine ok_cb ?_ | with_reducible refine ok_cons ?_ | with_reducible refine ok_nil ?_ | with_reducible refine ok_giv ?_ | with_reducible refine ok_lst ?_ | with_reducible refine ok_tup ?_ | with_reducible refine ok_dic ?_ | with_reducible refine ok_bool ?_ | with_reducible refine ok_not ?_ | with_reducible refine ok_notV ?_ | with_reducible refine ok_sl ?_ | with_reducible refine ok_part ?_ | with_reducible refine ok_join ?_ | with_reducible refine ok_it ?_ | with_reducible refine ok_itA ?_ | with_reducible refine ok_call0 ?_ | with_reducible refine ok_callN ?_ | with_reducible refine ok_chain ?_ | ((with_reducible apply ok_var); rfl) | ((with_reducible apply ok_varL); rfl) | ((with_reducible apply ok_ixN); rfl) | ((with_reducible apply ok_ixM); rfl) | ((with_reducible apply ok_lenN); rfl) | ((with_reducible apply ok_lenM); rfl) | ((with_reducible apply ok_callY); rfl) | with_reducible refine dn_set ?_ | with_reducible refine dn_ret ?_ | with_reducible refine dn_retN ?_ | with_reducible refine dn_new ?_ | with_reducible refine dn_parN ?_ | with_reducible refine dn_par ?_ | with_reducible refine dn_pair ?_ | with_reducible refine dn_raise ?_ | ((with_reducible apply dn_app); rfl) | with_reducible refine dn_item ?_ | with_reducible refine sq_set ?_ | with_reducible refine sq_pair ?_ | with_reducible refine sq_par ?_ | with_reducible refine sq_parN ?_ | with_reducible refine sq_new ?_ | with_reducible refine sq_item ?_ | ((with_reducible apply sq_app); rfl) | refine ⟨_, _, _, rfl, rfl, rfl, ?_⟩ | refine ⟨_, rfl, ?_⟩ | refine ⟨⟨_, rfl⟩, ?_⟩ | refine ⟨Nat.le_of_ble_eq_true rfl, ?_⟩)
    refine ⟨_, all_bl, _, rfl, fun h3 => ?_, fun h3 => dn_nx ⟨fun _ => ?_, fun z => absurd rfl z⟩⟩
    · repeat (first | with_reducible refine ok_op ?_ | with_reducible refine ok_un ?_ | with_reducible refine ok_cb ?_ | with_reducible refine ok_cons ?_ | with_reducible refine ok_nil ?_ | with_reducible refine ok_giv ?_ | with_reducible refine ok_lst ?_ | with_reducible refine ok_tup ?_ | with_reducible refine ok_dic ?_ | with_reducible refine ok_bool ?_ | with_reducible refine ok_not ?_ | with_reducible refine ok_notV ?_ | with_reducible refine ok_sl ?_ | with_reducible refine ok_part ?_ | with_reducible refine ok_join ?_ | with_reducible refine ok_it ?_ | with_reducible refine ok_itA ?_ | with_reducible refine ok_call0 ?_ | with_reducible refine ok_callN ?_ | with_reducible refine ok_chain ?_ | ((with_reducible apply ok_var); rfl) | ((with_reducible apply ok_varL); rfl) | ((with_reducible apply ok_ixN); rfl) | ((with_reducible apply ok_ixM); rfl) | ((with_reducible apply ok_lenN); rfl) | ((with_reducible apply ok_lenM); rfl) | ((with_reducible apply ok_callY); rfl) | with_reducible refine dn_set ?_ | with_reducible refine dn_ret ?_ | with_reducible refine dn_retN ?_ | with_reducible refine dn_new ?_ | with_reducible refine dn_parN ?_ | with_reducible refine dn_par ?_ | with_reducible refine dn_pair ?_ | with_reducible refine dn_raise ?_ | ((with_reducible apply dn_app); rfl) | with_reducible refine dn_item ?_ | with_reducible refine sq_set ?_ | with_reducible refine sq_pair ?_ | with_reducible refine sq_par ?_ | with_reducible refine sq_parN ?_ | with_reducible refine sq_new ?_ | with_reducible refine sq_item ?_ | ((with_reducible apply sq_app); rfl) | refine ⟨_, _, _, rfl, rfl, rfl, ?_⟩ | refine ⟨_, rfl, ?_⟩ | refine ⟨⟨_, rfl⟩, ?_⟩ | refine ⟨Nat.le_of_ble_eq_true rfl, ?_⟩)
      refine ⟨(fun z => nomatch z), fun _ => ⟨_, rfl, ?_⟩⟩
      rw [Bool.not_eq_true'] at h3
      have : ds.all rowB = false := by
        cases q : ds.all rowB with
        | false => rfl
        | true =>
          have : ds.all D.kStr = true := List.all_eq_true.mpr fun d hd => by obtain ⟨x, rfl, _⟩ := row_str (List.all_eq_true.mp q d hd); rfl
          rw [h3] at this
          cases this
      show _ = D.bl (lbL ds)
      unfold lbL prL
      rw [this, Bool.false_and, Bool.and_false, Bool.false_and]
    rw [Bool.not_eq_false'] at h3
    have str : ∀ d ∈ ds, ∃ x : Str, d = .str x := fun d hd => kstr (List.all_eq_true.mp h3 d hd)
    have chrs : ∀ x : Str, D.str x ∈ ds → x.length ≤ 30 ∧ ∀ c ∈ x.cps.toList, c < 1114112 := fun x hx => by
      have := bd _ hx
      cases this with
      | str k x h => exact h
    obtain ⟨x0, r, e0⟩ : ∃ (x0 : Str) (r : List D), ds = .str x0 :: r := by
      cases ds with
      | nil => exact absurd h2.1 (by decide)
      | cons d r => obtain ⟨x, rfl⟩ := str d (List.mem_cons_self ..); exact ⟨x, r, rfl⟩
    have hd0 : hdL ds = x0.length := by rw [e0]; rfl
    have c0 := chrs x0 (by rw [e0]; exact List.mem_cons_self ..)
    repeat (first | with_reducible refine ok_op ?_ | with_reducible refine ok_un ?_ | with_reducible refine ok_cb ?_ | with_reducible refine ok_cons ?_ | with_reducible refine ok_nil ?_ | with_reducible refine ok_giv ?_ | with_reducible refine ok_lst ?_ | with_reducible refine ok_tup ?_ | with_reducible refine ok_dic ?_ | with_reducible refine ok_bool ?_ | with_reducible refine ok_not ?_ | with_reducible refine ok_notV ?_ | with_reducible refine ok_sl ?_ | with_reducible refine ok_part ?_ | with_reducible refine ok_join ?_ | with_reducible refine ok_it ?_ | with_reducible refine ok_itA ?_ | with_reducible refine ok_call0 ?_ | with_reducible refine ok_callN ?_ | with_reducible refine ok_chain ?_ | ((with_reducible apply ok_var); rfl) | ((with_reducible apply ok_varL); rfl) | ((with_reducible apply ok_ixN); rfl) | ((with_reducible apply ok_ixM); rfl) | ((with_reducible apply ok_lenN); rfl) | ((with_reducible apply ok_lenM); rfl) | ((with_reducible apply ok_callY); rfl) | with_reducible refine dn_set ?_ | with_reducible refine dn_ret ?_ | with_reducible refine dn_retN ?_ | with_reducible refine dn_new ?_ | with_reducible refine dn_parN ?_ | with_reducible refine dn_par ?_ | with_reducible refine dn_pair ?_ | with_reducible refine dn_raise ?_ | ((with_reducible apply dn_app); rfl) | with_reducible refine dn_item ?_ | with_reducible refine sq_set ?_ | with_reducible refine sq_pair ?_ | with_reducible refine sq_par ?_ | with_reducible refine sq_parN ?_ | with_reducible refine sq_new ?_ | with_reducible refine sq_item ?_ | ((with_reducible apply sq_app); rfl) | refine ⟨_, _, _, rfl, rfl, rfl, ?_⟩ | refine ⟨_, rfl, ?_⟩ | refine ⟨⟨_, rfl⟩, ?_⟩ | refine ⟨Nat.le_of_ble_eq_true rfl, ?_⟩)
    refine ⟨_, by rw [e0]; exact ix_T0, ?_⟩
    repeat (first | with_reducible refine ok_op ?_ | with_reducible refine ok_un ?_ | with_reducible refine ok_cb ?_ | with_reducible refine ok_cons ?_ | with_reducible refine ok_nil ?_ | with_reducible refine ok_giv ?_ | with_reducible refine ok_lst ?_ | with_reducible refine ok_tup ?_ | with_reducible refine ok_dic ?_ | with_reducible refine ok_bool ?_ | with_reducible refine ok_not ?_ | with_reducible refine ok_notV ?_ | with_reducible refine ok_sl ?_ | with_reducible refine ok_part ?_ | with_reducible refine ok_join ?_ | with_reducible refine ok_it ?_ | with_reducible refine ok_itA ?_ | with_reducible refine ok_call0 ?_ | with_reducible refine ok_callN ?_ | with_reducible refine ok_chain ?_ | ((with_reducible apply ok_var); rfl) | ((with_reducible apply ok_varL); rfl) | ((with_reducible apply ok_ixN); rfl) | ((with_reducible apply ok_ixM); rfl) | ((with_reducible apply ok_lenN); rfl) | ((with_reducible apply ok_lenM); rfl) | ((with_reducible apply ok_callY); rfl) | with_reducible refine dn_set ?_ | with_reducible refine dn_ret ?_ | with_reducible refine dn_retN ?_ | with_reducible refine dn_new ?_ | with_reducible refine dn_parN ?_ | with_reducible refine dn_par ?_ | with_reducible refine dn_pair ?_ | with_reducible refine dn_raise ?_ | ((with_reducible apply dn_app); rfl) | with_reducible refine dn_item ?_ | with_reducible refine sq_set ?_ | with_reducible refine sq_pair ?_ | with_reducible refine sq_par ?_ | with_reducible refine sq_parN ?_ | with_reducible refine sq_new ?_ | with_reducible refine sq_item ?_ | ((with_reducible apply sq_app); rfl) | refine ⟨_, _, _, rfl, rfl, rfl, ?_⟩ | refine ⟨_, rfl, ?_⟩ | refine ⟨⟨_, rfl⟩, ?_⟩ | refine ⟨Nat.le_of_ble_eq_true rfl, ?_⟩)
    refine ⟨_, len_str (by omega), ?_⟩
    refine dn_seq (dn_if (ok_or (ok_not (ok_bool (chain_var (n := x0.length) rfl ⟨_, rfl, fun h4 => ⟨fun _ => ?_, fun z => (nomatch z)⟩, fun h4 => ?_⟩)))))
    · repeat (first | with_reducible refine ok_op ?_ | with_reducible refine ok_un ?_ | with_reducible refine ok_cb ?_ | with_reducible refine ok_cons ?_ | with_reducible refine ok_nil ?_ | with_reducible refine ok_giv ?_ | with_reducible refine ok_lst ?_ | with_reducible refine ok_tup ?_ | with_reducible refine ok_dic ?_ | with_reducible refine ok_bool ?_ | with_reducible refine ok_not ?_ | with_reducible refine ok_notV ?_ | with_reducible refine ok_sl ?_ | with_reducible refine ok_part ?_ | with_reducible refine ok_join ?_ | with_reducible refine ok_it ?_ | with_reducible refine ok_itA ?_ | with_reducible refine ok_call0 ?_ | with_reducible refine ok_callN ?_ | with_reducible refine ok_chain ?_ | ((with_reducible apply ok_var); rfl) | ((with_reducible apply ok_varL); rfl) | ((with_reducible apply ok_ixN); rfl) | ((with_reducible apply ok_ixM); rfl) | ((with_reducible apply ok_lenN); rfl) | ((with_reducible apply ok_lenM); rfl) | ((with_reducible apply ok_callY); rfl) | with_reducible refine dn_set ?_ | with_reducible refine dn_ret ?_ | with_reducible refine dn_retN ?_ | with_reducible refine dn_new ?_ | with_reducible refine dn_parN ?_ | with_reducible refine dn_par ?_ | with_reducible refine dn_pair ?_ | with_reducible refine dn_raise ?_ | ((with_reducible apply dn_app); rfl) | with_reducible refine dn_item ?_ | with_reducible refine sq_set ?_ | with_reducible refine sq_pair ?_ | with_reducible refine sq_par ?_ | with_reducible refine sq_parN ?_ | with_reducible refine sq_new ?_ | with_reducible refine sq_item ?_ | ((with_reducible apply sq_app); rfl) | refine ⟨_, _, _, rfl, rfl, rfl, ?_⟩ | refine ⟨_, rfl, ?_⟩ | refine ⟨⟨_, rfl⟩, ?_⟩ | refine ⟨Nat.le_of_ble_eq_true rfl, ?_⟩)
      refine ⟨(fun z => nomatch z), fun _ => ⟨_, rfl, ?_⟩⟩
      rw [Bool.not_eq_true'] at h4
      have : ds.all rowB = false := by
        rw [e0, List.all_cons, row_iff, h4, Bool.false_and, Bool.false_and]
      show _ = D.bl (lbL ds)
      unfold lbL prL
      rw [this, Bool.false_and, Bool.and_false, Bool.false_and]
    rw [Bool.not_eq_false'] at h4
    have h5 := h4
    simp only [Bool.and_eq_true, decide_eq_true_eq] at h5
    refine ok_not (ok_bool (ok_cb (ok_cons (ok_lc (fun d => .bl (decide (lenD d = x0.length) && oB d)) ?_))))
    repeat (first | with_reducible refine ok_op ?_ | with_reducible refine ok_un ?_ | with_reducible refine ok_cb ?_ | with_reducible refine ok_cons ?_ | with_reducible refine ok_nil ?_ | with_reducible refine ok_giv ?_ | with_reducible refine ok_lst ?_ | with_reducible refine ok_tup ?_ | with_reducible refine ok_dic ?_ | with_reducible refine ok_bool ?_ | with_reducible refine ok_not ?_ | with_reducible refine ok_notV ?_ | with_reducible refine ok_sl ?_ | with_reducible refine ok_part ?_ | with_reducible refine ok_join ?_ | with_reducible refine ok_it ?_ | with_reducible refine ok_itA ?_ | with_reducible refine ok_call0 ?_ | with_reducible refine ok_callN ?_ | with_reducible refine ok_chain ?_ | ((with_reducible apply ok_var); rfl) | ((with_reducible apply ok_varL); rfl) | ((with_reducible apply ok_ixN); rfl) | ((with_reducible apply ok_ixM); rfl) | ((with_reducible apply ok_lenN); rfl) | ((with_reducible apply ok_lenM); rfl) | ((with_reducible apply ok_callY); rfl) | with_reducible refine dn_set ?_ | with_reducible refine dn_ret ?_ | with_reducible refine dn_retN ?_ | with_reducible refine dn_new ?_ | with_reducible refine dn_parN ?_ | with_reducible refine dn_par ?_ | with_reducible refine dn_pair ?_ | with_reducible refine dn_raise ?_ | ((with_reducible apply dn_app); rfl) | with_reducible refine dn_item ?_ | with_reducible refine sq_set ?_ | with_reducible refine sq_pair ?_ | with_reducible refine sq_par ?_ | with_reducible refine sq_parN ?_ | with_reducible refine sq_new ?_ | with_reducible refine sq_item ?_ | ((with_reducible apply sq_app); rfl) | refine ⟨_, _, _, rfl, rfl, rfl, ?_⟩ | refine ⟨_, rfl, ?_⟩ | refine ⟨⟨_, rfl⟩, ?_⟩ | refine ⟨Nat.le_of_ble_eq_true rfl, ?_⟩)
    refine ⟨by omega, fun d hd => ⟨_, rfl, ok_andV ?_⟩, ?_⟩
    · obtain ⟨x, rfl⟩ := str d hd
      have cx := chrs x hd
      repeat (first | with_reducible refine ok_op ?_ | with_reducible refine ok_un ?_ | with_reducible refine ok_cb ?_ | with_reducible refine ok_cons ?_ | with_reducible refine ok_nil ?_ | with_reducible refine ok_giv ?_ | with_reducible refine ok_lst ?_ | with_reducible refine ok_tup ?_ | with_reducible refine ok_dic ?_ | with_reducible refine ok_bool ?_ | with_reducible refine ok_not ?_ | with_reducible refine ok_notV ?_ | with_reducible refine ok_sl ?_ | with_reducible refine ok_part ?_ | with_reducible refine ok_join ?_ | with_reducible refine ok_it ?_ | with_reducible refine ok_itA ?_ | with_reducible refine ok_call0 ?_ | with_reducible refine ok_callN ?_ | with_reducible refine ok_chain ?_ | ((with_reducible apply ok_var); rfl) | ((with_reducible apply ok_varL); rfl) | ((with_reducible apply ok_ixN); rfl) | ((with_reducible apply ok_ixM); rfl) | ((with_reducible apply ok_lenN); rfl) | ((with_reducible apply ok_lenM); rfl) | ((with_reducible apply ok_callY); rfl) | with_reducible refine dn_set ?_ | with_reducible refine dn_ret ?_ | with_reducible refine dn_retN ?_ | with_reducible refine dn_new ?_ | with_reducible refine dn_parN ?_ | with_reducible refine dn_par ?_ | with_reducible refine dn_pair ?_ | with_reducible refine dn_raise ?_ | ((with_reducible apply dn_app); rfl) | with_reducible refine dn_item ?_ | with_reducible refine sq_set ?_ | with_reducible refine sq_pair ?_ | with_reducible refine sq_par ?_ | with_reducible refine sq_parN ?_ | with_reducible refine sq_new ?_ | with_reducible refine sq_item ?_ | ((with_reducible apply sq_app); rfl) | refine ⟨_, _, _, rfl, rfl, rfl, ?_⟩ | refine ⟨_, rfl, ?_⟩ | refine ⟨⟨_, rfl⟩, ?_⟩ | refine ⟨Nat.le_of_ble_eq_true rfl, ?_⟩)
      refine ⟨_, len_str (by omega), ?_⟩
      repeat (first | with_reducible refine ok_op ?_ | with_reducible refine ok_un ?_ | with_reducible refine ok_cb ?_ | with_reducible refine ok_cons ?_ | with_reducible refine ok_nil ?_ | with_reducible refine ok_giv ?_ | with_reducible refine ok_lst ?_ | with_reducible refine ok_tup ?_ | with_reducible refine ok_dic ?_ | with_reducible refine ok_bool ?_ | with_reducible refine ok_not ?_ | with_reducible refine ok_notV ?_ | with_reducible refine ok_sl ?_ | with_reducible refine ok_part ?_ | with_reducible refine ok_join ?_ | with_reducible refine ok_it ?_ | with_reducible refine ok_itA ?_ | with_reducible refine ok_call0 ?_ | with_reducible refine ok_callN ?_ | with_reducible refine ok_chain ?_ | ((with_reducible apply ok_var); rfl) | ((with_reducible apply ok_varL); rfl) | ((with_reducible apply ok_ixN); rfl) | ((with_reducible apply ok_ixM); rfl) | ((with_reducible apply ok_lenN); rfl) | ((with_reducible apply ok_lenM); rfl) | ((with_reducible apply ok_callY); rfl) | with_reducible refine dn_set ?_ | with_reducible refine dn_ret ?_ | with_reducible refine dn_retN ?_ | with_reducible refine dn_new ?_ | with_reducible refine dn_parN ?_ | with_reducible refine dn_par ?_ | with_reducible refine dn_pair ?_ | with_reducible refine dn_raise ?_ | ((with_reducible apply dn_app); rfl) | with_reducible refine dn_item ?_ | with_reducible refine sq_set ?_ | with_reducible refine sq_pair ?_ | with_reducible refine sq_par ?_ | with_reducible refine sq_parN ?_ | with_reducible refine sq_new ?_ | with_reducible refine sq_item ?_ | ((with_reducible apply sq_app); rfl) | refine ⟨_, _, _, rfl, rfl, rfl, ?_⟩ | refine ⟨_, rfl, ?_⟩ | refine ⟨⟨_, rfl⟩, ?_⟩ | refine ⟨Nat.le_of_ble_eq_true rfl, ?_⟩)
      have e : decide ((x.length : Int) = (x0.length : Int)) = decide (x.length = x0.length) := by
        by_cases q : x.length = x0.length
        · rw [decide_eq_true q, decide_eq_true (by omega)]
        · rw [decide_eq_false q, decide_eq_false (by omega)]
      rw [e]
      refine ⟨fun q => ?_, fun q => ⟨?_, rfl⟩⟩
      · repeat (first | with_reducible refine ok_op ?_ | with_reducible refine ok_un ?_ | with_reducible refine ok_cb ?_ | with_reducible refine ok_cons ?_ | with_reducible refine ok_nil ?_ | with_reducible refine ok_giv ?_ | with_reducible refine ok_lst ?_ | with_reducible refine ok_tup ?_ | with_reducible refine ok_dic ?_ | with_reducible refine ok_bool ?_ | with_reducible refine ok_not ?_ | with_reducible refine ok_notV ?_ | with_reducible refine ok_sl ?_ | with_reducible refine ok_part ?_ | with_reducible refine ok_join ?_ | with_reducible refine ok_it ?_ | with_reducible refine ok_itA ?_ | with_reducible refine ok_call0 ?_ | with_reducible refine ok_callN ?_ | with_reducible refine ok_chain ?_ | ((with_reducible apply ok_var); rfl) | ((with_reducible apply ok_varL); rfl) | ((with_reducible apply ok_ixN); rfl) | ((with_reducible apply ok_ixM); rfl) | ((with_reducible apply ok_lenN); rfl) | ((with_reducible apply ok_lenM); rfl) | ((with_reducible apply ok_callY); rfl) | with_reducible refine dn_set ?_ | with_reducible refine dn_ret ?_ | with_reducible refine dn_retN ?_ | with_reducible refine dn_new ?_ | with_reducible refine dn_parN ?_ | with_reducible refine dn_par ?_ | with_reducible refine dn_pair ?_ | with_reducible refine dn_raise ?_ | ((with_reducible apply dn_app); rfl) | with_reducible refine dn_item ?_ | with_reducible refine sq_set ?_ | with_reducible refine sq_pair ?_ | with_reducible refine sq_par ?_ | with_reducible refine sq_parN ?_ | with_reducible refine sq_new ?_ | with_reducible refine sq_item ?_ | ((with_reducible apply sq_app); rfl) | refine ⟨_, _, _, rfl, rfl, rfl, ?_⟩ | refine ⟨_, rfl, ?_⟩ | refine ⟨⟨_, rfl⟩, ?_⟩ | refine ⟨Nat.le_of_ble_eq_true rfl, ?_⟩)
        refine ⟨?_, rfl⟩
        show D.bl (decide (111 ∈ x.cps.toList)) = D.bl (decide (x.length = x0.length) && decide (111 ∈ x.cps.toList))
        rw [q, Bool.true_and]
      · show D.bl false = D.bl (decide (x.length = x0.length) && decide (111 ∈ x.cps.toList))
        rw [q, Bool.false_and]
    repeat (first | with_reducible refine ok_op ?_ | with_reducible refine ok_un ?_ | with_reducible refine ok_cb ?_ | with_reducible refine ok_cons ?_ | with_reducible refine ok_nil ?_ | with_reducible refine ok_giv ?_ | with_reducible refine ok_lst ?_ | with_reducible refine ok_tup ?_ | with_reducible refine ok_dic ?_ | with_reducible refine ok_bool ?_ | with_reducible refine ok_not ?_ | with_reducible refine ok_notV ?_ | with_reducible refine ok_sl ?_ | with_reducible refine ok_part ?_ | with_reducible refine ok_join ?_ | with_reducible refine ok_it ?_ | with_reducible refine ok_itA ?_ | with_reducible refine ok_call0 ?_ | with_reducible refine ok_callN ?_ | with_reducible refine ok_chain ?_ | ((with_reducible apply ok_var); rfl) | ((with_reducible apply ok_varL); rfl) | ((with_reducible apply ok_ixN); rfl) | ((with_reducible apply ok_ixM); rfl) | ((with_reducible apply ok_lenN); rfl) | ((with_reducible apply ok_lenM); rfl) | ((with_reducible apply ok_callY); rfl) | with_reducible refine dn_set ?_ | with_reducible refine dn_ret ?_ | with_reducible refine dn_retN ?_ | with_reducible refine dn_new ?_ | with_reducible refine dn_parN ?_ | with_reducible refine dn_par ?_ | with_reducible refine dn_pair ?_ | with_reducible refine dn_raise ?_ | ((with_reducible apply dn_app); rfl) | with_reducible refine dn_item ?_ | with_reducible refine sq_set ?_ | with_reducible refine sq_pair ?_ | with_reducible refine sq_par ?_ | with_reducible refine sq_parN ?_ | with_reducible refine sq_new ?_ | with_reducible refine sq_item ?_ | ((with_reducible apply sq_app); rfl) | refine ⟨_, _, _, rfl, rfl, rfl, ?_⟩ | refine ⟨_, rfl, ?_⟩ | refine ⟨⟨_, rfl⟩, ?_⟩ | refine ⟨Nat.le_of_ble_eq_true rfl, ?_⟩)
    refine ⟨_, all_bl, _, rfl, fun h6 => ?_, fun h6 => dn_nx ⟨fun _ => ?_, fun z => absurd rfl z⟩⟩
    · repeat (first | with_reducible refine ok_op ?_ | with_reducible refine ok_un ?_ | with_reducible refine ok_cb ?_ | with_reducible refine ok_cons ?_ | with_reducible refine ok_nil ?_ | with_reducible refine ok_giv ?_ | with_reducible refine ok_lst ?_ | with_reducible refine ok_tup ?_ | with_reducible refine ok_dic ?_ | with_reducible refine ok_bool ?_ | with_reducible refine ok_not ?_ | with_reducible refine ok_notV ?_ | with_reducible refine ok_sl ?_ | with_reducible refine ok_part ?_ | with_reducible refine ok_join ?_ | with_reducible refine ok_it ?_ | with_reducible refine ok_itA ?_ | with_reducible refine ok_call0 ?_ | with_reducible refine ok_callN ?_ | with_reducible refine ok_chain ?_ | ((with_reducible apply ok_var); rfl) | ((with_reducible apply ok_varL); rfl) | ((with_reducible apply ok_ixN); rfl) | ((with_reducible apply ok_ixM); rfl) | ((with_reducible apply ok_lenN); rfl) | ((with_reducible apply ok_lenM); rfl) | ((with_reducible apply ok_callY); rfl) | with_reducible refine dn_set ?_ | with_reducible refine dn_ret ?_ | with_reducible refine dn_retN ?_ | with_reducible refine dn_new ?_ | with_reducible refine dn_parN ?_ | with_reducible refine dn_par ?_ | with_reducible refine dn_pair ?_ | with_reducible refine dn_raise ?_ | ((with_reducible apply dn_app); rfl) | with_reducible refine dn_item ?_ | with_reducible refine sq_set ?_ | with_reducible refine sq_pair ?_ | with_reducible refine sq_par ?_ | with_reducible refine sq_parN ?_ | with_reducible refine sq_new ?_ | with_reducible refine sq_item ?_ | ((with_reducible apply sq_app); rfl) | refine ⟨_, _, _, rfl, rfl, rfl, ?_⟩ | refine ⟨_, rfl, ?_⟩ | refine ⟨⟨_, rfl⟩, ?_⟩ | refine ⟨Nat.le_of_ble_eq_true rfl, ?_⟩)
      refine ⟨(fun z => nomatch z), fun _ => ⟨_, rfl, ?_⟩⟩
      rw [Bool.not_eq_true'] at h6
      show _ = D.bl (lbL ds)
      cases q : lbL ds with
      | false => rfl
      | true =>
        unfold lbL prL at q
        simp only [Bool.and_eq_true] at q
        have : (ds.all fun d => decide (lenD d = x0.length) && oB d) = true := List.all_eq_true.mpr fun d hd => by
          have a := List.all_eq_true.mp q.1.2.2 d hd
          rw [hd0] at a
          rw [a, List.all_eq_true.mp q.2.1 d hd]
          rfl
        rw [h6] at this
        cases this
    rw [Bool.not_eq_false'] at h6
    have len : ∀ x : Str, D.str x ∈ ds → x.length = x0.length ∧ 111 ∈ x.cps.toList := fun x hx => by
      have := List.all_eq_true.mp h6 _ hx
      simp only [Bool.and_eq_true] at this
      exact ⟨of_decide_eq_true this.1, of_decide_eq_true this.2⟩
    obtain ⟨xs, ex⟩ := str_map str
    have mem : ∀ x ∈ xs, D.str x ∈ ds := fun x hx => by rw [ex]; exact List.mem_map.mpr ⟨x, hx, rfl⟩
    have xl : ∀ x ∈ xs, x.length ≤ 10 := fun x hx => by have := (len x (mem x hx)).1; omega
    have xn : xs.length ≤ 10 := by have : ds.length = xs.length := by rw [ex, List.length_map]
                                   omega
    refine dn_seq (dn_if (ok_not (ok_bool (ok_cb (ok_cons (ok_lc (fun d => match d with | .str ⟨⟨[c]⟩⟩ => .bl (sgB c) | _ => .bl false) ?_))))))
    repeat (first | with_reducible refine ok_op ?_ | with_reducible refine ok_un ?_ | with_reducible refine ok_cb ?_ | with_reducible refine ok_cons ?_ | with_reducible refine ok_nil ?_ | with_reducible refine ok_giv ?_ | with_reducible refine ok_lst ?_ | with_reducible refine ok_tup ?_ | with_reducible refine ok_dic ?_ | with_reducible refine ok_bool ?_ | with_reducible refine ok_not ?_ | with_reducible refine ok_notV ?_ | with_reducible refine ok_sl ?_ | with_reducible refine ok_part ?_ | with_reducible refine ok_join ?_ | with_reducible refine ok_it ?_ | with_reducible refine ok_itA ?_ | with_reducible refine ok_call0 ?_ | with_reducible refine ok_callN ?_ | with_reducible refine ok_chain ?_ | ((with_reducible apply ok_var); rfl) | ((with_reducible apply ok_varL); rfl) | ((with_reducible apply ok_ixN); rfl) | ((with_reducible apply ok_ixM); rfl) | ((with_reducible apply ok_lenN); rfl) | ((with_reducible apply ok_lenM); rfl) | ((with_reducible apply ok_callY); rfl) | with_reducible refine dn_set ?_ | with_reducible refine dn_ret ?_ | with_reducible refine dn_retN ?_ | with_reducible refine dn_new ?_ | with_reducible refine dn_parN ?_ | with_reducible refine dn_par ?_ | with_reducible refine dn_pair ?_ | with_reducible refine dn_raise ?_ | ((with_reducible apply dn_app); rfl) | with_reducible refine dn_item ?_ | with_reducible refine sq_set ?_ | with_reducible refine sq_pair ?_ | with_reducible refine sq_par ?_ | with_reducible refine sq_parN ?_ | with_reducible refine sq_new ?_ | with_reducible refine sq_item ?_ | ((with_reducible apply sq_app); rfl) | refine ⟨_, _, _, rfl, rfl, rfl, ?_⟩ | refine ⟨_, rfl, ?_⟩ | refine ⟨⟨_, rfl⟩, ?_⟩ | refine ⟨Nat.le_of_ble_eq_true rfl, ?_⟩)
    refine ⟨_, join_tup ex xl xn, ?_⟩
    repeat (first | with_reducible refine ok_op ?_ | with_reducible refine ok_un ?_ | with_reducible refine ok_cb ?_ | with_reducible refine ok_cons ?_ | with_reducible refine ok_nil ?_ | with_reducible refine ok_giv ?_ | with_reducible refine ok_lst ?_ | with_reducible refine ok_tup ?_ | with_reducible refine ok_dic ?_ | with_reducible refine ok_bool ?_ | with_reducible refine ok_not ?_ | with_reducible refine ok_notV ?_ | with_reducible refine ok_sl ?_ | with_reducible refine ok_part ?_ | with_reducible refine ok_join ?_ | with_reducible refine ok_it ?_ | with_reducible refine ok_itA ?_ | with_reducible refine ok_call0 ?_ | with_reducible refine ok_callN ?_ | with_reducible refine ok_chain ?_ | ((with_reducible apply ok_var); rfl) | ((with_reducible apply ok_varL); rfl) | ((with_reducible apply ok_ixN); rfl) | ((with_reducible apply ok_ixM); rfl) | ((with_reducible apply ok_lenN); rfl) | ((with_reducible apply ok_lenM); rfl) | ((with_reducible apply ok_callY); rfl) | with_reducible refine dn_set ?_ | with_reducible refine dn_ret ?_ | with_reducible refine dn_retN ?_ | with_reducible refine dn_new ?_ | with_reducible refine dn_parN ?_ | with_reducible refine dn_par ?_ | with_reducible refine dn_pair ?_ | with_reducible refine dn_raise ?_ | ((with_reducible apply dn_app); rfl) | with_reducible refine dn_item ?_ | with_reducible refine sq_set ?_ | with_reducible refine sq_pair ?_ | with_reducible refine sq_par ?_ | with_reducible refine sq_parN ?_ | with_reducible refine sq_new ?_ | with_reducible refine sq_item ?_ | ((with_reducible apply sq_app); rfl) | refine ⟨_, _, _, rfl, rfl, rfl, ?_⟩ | refine ⟨_, rfl, ?_⟩ | refine ⟨⟨_, rfl⟩, ?_⟩ | refine ⟨Nat.le_of_ble_eq_true rfl, ?_⟩)
    refine ⟨by rw [List.length_map]; have := join_len xl xn; omega, fun d hd => ?_, ?_⟩
    · obtain ⟨c, hc, rfl⟩ := List.mem_map.mp hd
      refine ⟨_, rfl, ?_⟩
      repeat (first | with_reducible refine ok_op ?_ | with_reducible refine ok_un ?_ | with_reducible refine ok_cb ?_ | with_reducible refine ok_cons ?_ | with_reducible refine ok_nil ?_ | with_reducible refine ok_giv ?_ | with_reducible refine ok_lst ?_ | with_reducible refine ok_tup ?_ | with_reducible refine ok_dic ?_ | with_reducible refine ok_bool ?_ | with_reducible refine ok_not ?_ | with_reducible refine ok_notV ?_ | with_reducible refine ok_sl ?_ | with_reducible refine ok_part ?_ | with_reducible refine ok_join ?_ | with_reducible refine ok_it ?_ | with_reducible refine ok_itA ?_ | with_reducible refine ok_call0 ?_ | with_reducible refine ok_callN ?_ | with_reducible refine ok_chain ?_ | ((with_reducible apply ok_var); rfl) | ((with_reducible apply ok_varL); rfl) | ((with_reducible apply ok_ixN); rfl) | ((with_reducible apply ok_ixM); rfl) | ((with_reducible apply ok_lenN); rfl) | ((with_reducible apply ok_lenM); rfl) | ((with_reducible apply ok_callY); rfl) | with_reducible refine dn_set ?_ | with_reducible refine dn_ret ?_ | with_reducible refine dn_retN ?_ | with_reducible refine dn_new ?_ | with_reducible refine dn_parN ?_ | with_reducible refine dn_par ?_ | with_reducible refine dn_pair ?_ | with_reducible refine dn_raise ?_ | ((with_reducible apply dn_app); rfl) | with_reducible refine dn_item ?_ | with_reducible refine sq_set ?_ | with_reducible refine sq_pair ?_ | with_reducible refine sq_par ?_ | with_reducible refine sq_parN ?_ | with_reducible refine sq_new ?_ | with_reducible refine sq_item ?_ | ((with_reducible apply sq_app); rfl) | refine ⟨_, _, _, rfl, rfl, rfl, ?_⟩ | refine ⟨_, rfl, ?_⟩ | refine ⟨⟨_, rfl⟩, ?_⟩ | refine ⟨Nat.le_of_ble_eq_true rfl, ?_⟩)
      exact ⟨Option.some.inj in_od, rfl⟩
    repeat (first | with_reducible refine ok_op ?_ | with_reducible refine ok_un ?_ | with_reducible refine ok_cb ?_ | with_reducible refine ok_cons ?_ | with_reducible refine ok_nil ?_ | with_reducible refine ok_giv ?_ | with_reducible refine ok_lst ?_ | with_reducible refine ok_tup ?_ | with_reducible refine ok_dic ?_ | with_reducible refine ok_bool ?_ | with_reducible refine ok_not ?_ | with_reducible refine ok_notV ?_ | with_reducible refine ok_sl ?_ | with_reducible refine ok_part ?_ | with_reducible refine ok_join ?_ | with_reducible refine ok_it ?_ | with_reducible refine ok_itA ?_ | with_reducible refine ok_call0 ?_ | with_reducible refine ok_callN ?_ | with_reducible refine ok_chain ?_ | ((with_reducible apply ok_var); rfl) | ((with_reducible apply ok_varL); rfl) | ((with_reducible apply ok_ixN); rfl) | ((with_reducible apply ok_ixM); rfl) | ((with_reducible apply ok_lenN); rfl) | ((with_reducible apply ok_lenM); rfl) | ((with_reducible apply ok_callY); rfl) | with_reducible refine dn_set ?_ | with_reducible refine dn_ret ?_ | with_reducible refine dn_retN ?_ | with_reducible refine dn_new ?_ | with_reducible refine dn_parN ?_ | with_reducible refine dn_par ?_ | with_reducible refine dn_pair ?_ | with_reducible refine dn_raise ?_ | ((with_reducible apply dn_app); rfl) | with_reducible refine dn_item ?_ | with_reducible refine sq_set ?_ | with_reducible refine sq_pair ?_ | with_reducible refine sq_par ?_ | with_reducible refine sq_parN ?_ | with_reducible refine sq_new ?_ | with_reducible refine sq_item ?_ | ((with_reducible apply sq_app); rfl) | refine ⟨_, _, _, rfl, rfl, rfl, ?_⟩ | refine ⟨_, rfl, ?_⟩ | refine ⟨⟨_, rfl⟩, ?_⟩ | refine ⟨Nat.le_of_ble_eq_true rfl, ?_⟩)
    have e : ((Txt.join "" xs).cps.toList.map fun c => D.str ⟨#[c]⟩).map (fun d => match d with | .str ⟨⟨[c]⟩⟩ => D.bl (sgB c) | _ => .bl false) = ((Txt.join "" xs).cps.toList.map fun c => D.str ⟨#[c]⟩).map fun d => D.bl (match d with | .str ⟨⟨[c]⟩⟩ => sgB c | _ => false) := by
      rw [List.map_map, List.map_map]
      rfl
    have e2 : (((Txt.join "" xs).cps.toList.map fun c => D.str ⟨#[c]⟩).all fun d => match d with | .str ⟨⟨[c]⟩⟩ => sgB c | _ => false) = ds.all sgD := by
      rw [List.all_map, ex, ← join_all]
      rfl
    rw [e]
    refine ⟨_, all_bl, _, rfl, ?_⟩
    rw [e2]
    have split : lbL ds = (ds.all sgD && (List.range (hdL ds)).all (colB ds)) := by
      unfold lbL prL
      rw [h1, Bool.true_and]
      have a : (ds.all fun d => decide (lenD d = hdL ds)) = true := List.all_eq_true.mpr fun d hd => by
        obtain ⟨x, rfl⟩ := str d hd
        rw [hd0]
        exact decide_eq_true (len x hd).1
      have c : ds.all oB = true := List.all_eq_true.mpr fun d hd => by
        obtain ⟨x, rfl⟩ := str d hd
        exact decide_eq_true (len x hd).2
      have f : ds.all rowB = ds.all sgD := by
        have : ∀ d ∈ ds, rowB d = sgD d := fun d hd => by
          obtain ⟨x, rfl⟩ := str d hd
          rw [row_iff, (len x hd).1, h4, Bool.true_and]
        exact all_congr this
      rw [a, c, f, Bool.and_true, Bool.true_and]
    refine ⟨fun h7 => ?_, fun h7 => dn_nx ⟨fun _ => ?_, fun z => absurd rfl z⟩⟩
    · repeat (first | with_reducible refine ok_op ?_ | with_reducible refine ok_un ?_ | with_reducible refine ok_cb ?_ | with_reducible refine ok_cons ?_ | with_reducible refine ok_nil ?_ | with_reducible refine ok_giv ?_ | with_reducible refine ok_lst ?_ | with_reducible refine ok_tup ?_ | with_reducible refine ok_dic ?_ | with_reducible refine ok_bool ?_ | with_reducible refine ok_not ?_ | with_reducible refine ok_notV ?_ | with_reducible refine ok_sl ?_ | with_reducible refine ok_part ?_ | with_reducible refine ok_join ?_ | with_reducible refine ok_it ?_ | with_reducible refine ok_itA ?_ | with_reducible refine ok_call0 ?_ | with_reducible refine ok_callN ?_ | with_reducible refine ok_chain ?_ | ((with_reducible apply ok_var); rfl) | ((with_reducible apply ok_varL); rfl) | ((with_reducible apply ok_ixN); rfl) | ((with_reducible apply ok_ixM); rfl) | ((with_reducible apply ok_lenN); rfl) | ((with_reducible apply ok_lenM); rfl) | ((with_reducible apply ok_callY); rfl) | with_reducible refine dn_set ?_ | with_reducible refine dn_ret ?_ | with_reducible refine dn_retN ?_ | with_reducible refine dn_new ?_ | with_reducible refine dn_parN ?_ | with_reducible refine dn_par ?_ | with_reducible refine dn_pair ?_ | with_reducible refine dn_raise ?_ | ((with_reducible apply dn_app); rfl) | with_reducible refine dn_item ?_ | with_reducible refine sq_set ?_ | with_reducible refine sq_pair ?_ | with_reducible refine sq_par ?_ | with_reducible refine sq_parN ?_ | with_reducible refine sq_new ?_ | with_reducible refine sq_item ?_ | ((with_reducible apply sq_app); rfl) | refine ⟨_, _, _, rfl, rfl, rfl, ?_⟩ | refine ⟨_, rfl, ?_⟩ | refine ⟨⟨_, rfl⟩, ?_⟩ | refine ⟨Nat.le_of_ble_eq_true rfl, ?_⟩)
      refine ⟨(fun z => nomatch z), fun _ => ⟨_, rfl, ?_⟩⟩
      rw [Bool.not_eq_true'] at h7
      show _ = D.bl (lbL ds)
      rw [split, h7, Bool.false_and]
    rw [Bool.not_eq_false'] at h7
    refine dn_ret (ok_cb (ok_cons (ok_lc (fun d => match d with | .int j => .bl (colB ds j.toNat) | _ => .bl false) ?_)))
    repeat (first | with_reducible refine ok_op ?_ | with_reducible refine ok_un ?_ | with_reducible refine ok_cb ?_ | with_reducible refine ok_cons ?_ | with_reducible refine ok_nil ?_ | with_reducible refine ok_giv ?_ | with_reducible refine ok_lst ?_ | with_reducible refine ok_tup ?_ | with_reducible refine ok_dic ?_ | with_reducible refine ok_bool ?_ | with_reducible refine ok_not ?_ | with_reducible refine ok_notV ?_ | with_reducible refine ok_sl ?_ | with_reducible refine ok_part ?_ | with_reducible refine ok_join ?_ | with_reducible refine ok_it ?_ | with_reducible refine ok_itA ?_ | with_reducible refine ok_call0 ?_ | with_reducible refine ok_callN ?_ | with_reducible refine ok_chain ?_ | ((with_reducible apply ok_var); rfl) | ((with_reducible apply ok_varL); rfl) | ((with_reducible apply ok_ixN); rfl) | ((with_reducible apply ok_ixM); rfl) | ((with_reducible apply ok_lenN); rfl) | ((with_reducible apply ok_lenM); rfl) | ((with_reducible apply ok_callY); rfl) | with_reducible refine dn_set ?_ | with_reducible refine dn_ret ?_ | with_reducible refine dn_retN ?_ | with_reducible refine dn_new ?_ | with_reducible refine dn_parN ?_ | with_reducible refine dn_par ?_ | with_reducible refine dn_pair ?_ | with_reducible refine dn_raise ?_ | ((with_reducible apply dn_app); rfl) | with_reducible refine dn_item ?_ | with_reducible refine sq_set ?_ | with_reducible refine sq_pair ?_ | with_reducible refine sq_par ?_ | with_reducible refine sq_parN ?_ | with_reducible refine sq_new ?_ | with_reducible refine sq_item ?_ | ((with_reducible apply sq_app); rfl) | refine ⟨_, _, _, rfl, rfl, rfl, ?_⟩ | refine ⟨_, rfl, ?_⟩ | refine ⟨⟨_, rfl⟩, ?_⟩ | refine ⟨Nat.le_of_ble_eq_true rfl, ?_⟩)
    refine ⟨_, rng_nat (by omega), by rw [rng_len]; omega, fun d hd => ?_, ?_⟩
    · obtain ⟨j, hj, rfl⟩ := List.mem_map.mp hd
      have hj := List.mem_range.mp hj
      refine ⟨_, rfl, ?_⟩
      repeat (first | with_reducible refine ok_op ?_ | with_reducible refine ok_un ?_ | with_reducible refine ok_cb ?_ | with_reducible refine ok_cons ?_ | with_reducible refine ok_nil ?_ | with_reducible refine ok_giv ?_ | with_reducible refine ok_lst ?_ | with_reducible refine ok_tup ?_ | with_reducible refine ok_dic ?_ | with_reducible refine ok_bool ?_ | with_reducible refine ok_not ?_ | with_reducible refine ok_notV ?_ | with_reducible refine ok_sl ?_ | with_reducible refine ok_part ?_ | with_reducible refine ok_join ?_ | with_reducible refine ok_it ?_ | with_reducible refine ok_itA ?_ | with_reducible refine ok_call0 ?_ | with_reducible refine ok_callN ?_ | with_reducible refine ok_chain ?_ | ((with_reducible apply ok_var); rfl) | ((with_reducible apply ok_varL); rfl) | ((with_reducible apply ok_ixN); rfl) | ((with_reducible apply ok_ixM); rfl) | ((with_reducible apply ok_lenN); rfl) | ((with_reducible apply ok_lenM); rfl) | ((with_reducible apply ok_callY); rfl) | with_reducible refine dn_set ?_ | with_reducible refine dn_ret ?_ | with_reducible refine dn_retN ?_ | with_reducible refine dn_new ?_ | with_reducible refine dn_parN ?_ | with_reducible refine dn_par ?_ | with_reducible refine dn_pair ?_ | with_reducible refine dn_raise ?_ | ((with_reducible apply dn_app); rfl) | with_reducible refine dn_item ?_ | with_reducible refine sq_set ?_ | with_reducible refine sq_pair ?_ | with_reducible refine sq_par ?_ | with_reducible refine sq_parN ?_ | with_reducible refine sq_new ?_ | with_reducible refine sq_item ?_ | ((with_reducible apply sq_app); rfl) | refine ⟨_, _, _, rfl, rfl, rfl, ?_⟩ | refine ⟨_, rfl, ?_⟩ | refine ⟨⟨_, rfl⟩, ?_⟩ | refine ⟨Nat.le_of_ble_eq_true rfl, ?_⟩)
      refine ok_lc (fun d => .str ⟨#[chr j d]⟩) ?_
      repeat (first | with_reducible refine ok_op ?_ | with_reducible refine ok_un ?_ | with_reducible refine ok_cb ?_ | with_reducible refine ok_cons ?_ | with_reducible refine ok_nil ?_ | with_reducible refine ok_giv ?_ | with_reducible refine ok_lst ?_ | with_reducible refine ok_tup ?_ | with_reducible refine ok_dic ?_ | with_reducible refine ok_bool ?_ | with_reducible refine ok_not ?_ | with_reducible refine ok_notV ?_ | with_reducible refine ok_sl ?_ | with_reducible refine ok_part ?_ | with_reducible refine ok_join ?_ | with_reducible refine ok_it ?_ | with_reducible refine ok_itA ?_ | with_reducible refine ok_call0 ?_ | with_reducible refine ok_callN ?_ | with_reducible refine ok_chain ?_ | ((with_reducible apply ok_var); rfl) | ((with_reducible apply ok_varL); rfl) | ((with_reducible apply ok_ixN); rfl) | ((with_reducible apply ok_ixM); rfl) | ((with_reducible apply ok_lenN); rfl) | ((with_reducible apply ok_lenM); rfl) | ((with_reducible apply ok_callY); rfl) | with_reducible refine dn_set ?_ | with_reducible refine dn_ret ?_ | with_reducible refine dn_retN ?_ | with_reducible refine dn_new ?_ | with_reducible refine dn_parN ?_ | with_reducible refine dn_par ?_ | with_reducible refine dn_pair ?_ | with_reducible refine dn_raise ?_ | ((with_reducible apply dn_app); rfl) | with_reducible refine dn_item ?_ | with_reducible refine sq_set ?_ | with_reducible refine sq_pair ?_ | with_reducible refine sq_par ?_ | with_reducible refine sq_parN ?_ | with_reducible refine sq_new ?_ | with_reducible refine sq_item ?_ | ((with_reducible apply sq_app); rfl) | refine ⟨_, _, _, rfl, rfl, rfl, ?_⟩ | refine ⟨_, rfl, ?_⟩ | refine ⟨⟨_, rfl⟩, ?_⟩ | refine ⟨Nat.le_of_ble_eq_true rfl, ?_⟩)
      refine ⟨by omega, fun d hd => ?_, ?_⟩
      · obtain ⟨x, rfl⟩ := str d hd
        have := (len x hd).1
        refine ⟨_, rfl, ?_⟩
        repeat (first | with_reducible refine ok_op ?_ | with_reducible refine ok_un ?_ | with_reducible refine ok_cb ?_ | with_reducible refine ok_cons ?_ | with_reducible refine ok_nil ?_ | with_reducible refine ok_giv ?_ | with_reducible refine ok_lst ?_ | with_reducible refine ok_tup ?_ | with_reducible refine ok_dic ?_ | with_reducible refine ok_bool ?_ | with_reducible refine ok_not ?_ | with_reducible refine ok_notV ?_ | with_reducible refine ok_sl ?_ | with_reducible refine ok_part ?_ | with_reducible refine ok_join ?_ | with_reducible refine ok_it ?_ | with_reducible refine ok_itA ?_ | with_reducible refine ok_call0 ?_ | with_reducible refine ok_callN ?_ | with_reducible refine ok_chain ?_ | ((with_reducible apply ok_var); rfl) | ((with_reducible apply ok_varL); rfl) | ((with_reducible apply ok_ixN); rfl) | ((with_reducible apply ok_ixM); rfl) | ((with_reducible apply ok_lenN); rfl) | ((with_reducible apply ok_lenM); rfl) | ((with_reducible apply ok_callY); rfl) | with_reducible refine dn_set ?_ | with_reducible refine dn_ret ?_ | with_reducible refine dn_retN ?_ | with_reducible refine dn_new ?_ | with_reducible refine dn_parN ?_ | with_reducible refine dn_par ?_ | with_reducible refine dn_pair ?_ | with_reducible refine dn_raise ?_ | ((with_reducible apply dn_app); rfl) | with_reducible refine dn_item ?_ | with_reducible refine sq_set ?_ | with_reducible refine sq_pair ?_ | with_reducible refine sq_par ?_ | with_reducible refine sq_parN ?_ | with_reducible refine sq_new ?_ | with_reducible refine sq_item ?_ | ((with_reducible apply sq_app); rfl) | refine ⟨_, _, _, rfl, rfl, rfl, ?_⟩ | refine ⟨_, rfl, ?_⟩ | refine ⟨⟨_, rfl⟩, ?_⟩ | refine ⟨Nat.le_of_ble_eq_true rfl, ?_⟩)
        exact ⟨_, chr_at (by omega) (by omega), rfl, rfl⟩
      · have e3 : (ds.map fun d => D.str ⟨#[chr j d]⟩) = (ds.map (chr j)).map fun c => D.str ⟨#[c]⟩ := by rw [List.map_map]; rfl
        rw [e3]
        refine ⟨_, lst_in fun c hc => ?_, ?_, rfl⟩
        · obtain ⟨d, hd, rfl⟩ := List.mem_map.mp hc
          obtain ⟨x, rfl⟩ := str d hd
          exact chr_lt (chrs x hd).2
        · show _ = D.bl (decide (111 ∈ ds.map (chr (j : Int).toNat)))
          rw [Int.toNat_natCast]
    · repeat (first | with_reducible refine ok_op ?_ | with_reducible refine ok_un ?_ | with_reducible refine ok_cb ?_ | with_reducible refine ok_cons ?_ | with_reducible refine ok_nil ?_ | with_reducible refine ok_giv ?_ | with_reducible refine ok_lst ?_ | with_reducible refine ok_tup ?_ | with_reducible refine ok_dic ?_ | with_reducible refine ok_bool ?_ | with_reducible refine ok_not ?_ | with_reducible refine ok_notV ?_ | with_reducible refine ok_sl ?_ | with_reducible refine ok_part ?_ | with_reducible refine ok_join ?_ | with_reducible refine ok_it ?_ | with_reducible refine ok_itA ?_ | with_reducible refine ok_call0 ?_ | with_reducible refine ok_callN ?_ | with_reducible refine ok_chain ?_ | ((with_reducible apply ok_var); rfl) | ((with_reducible apply ok_varL); rfl) | ((with_reducible apply ok_ixN); rfl) | ((with_reducible apply ok_ixM); rfl) | ((with_reducible apply ok_lenN); rfl) | ((with_reducible apply ok_lenM); rfl) | ((with_reducible apply ok_callY); rfl) | with_reducible refine dn_set ?_ | with_reducible refine dn_ret ?_ | with_reducible refine dn_retN ?_ | with_reducible refine dn_new ?_ | with_reducible refine dn_parN ?_ | with_reducible refine dn_par ?_ | with_reducible refine dn_pair ?_ | with_reducible refine dn_raise ?_ | ((with_reducible apply dn_app); rfl) | with_reducible refine dn_item ?_ | with_reducible refine sq_set ?_ | with_reducible refine sq_pair ?_ | with_reducible refine sq_par ?_ | with_reducible refine sq_parN ?_ | with_reducible refine sq_new ?_ | with_reducible refine sq_item ?_ | ((with_reducible apply sq_app); rfl) | refine ⟨_, _, _, rfl, rfl, rfl, ?_⟩ | refine ⟨_, rfl, ?_⟩ | refine ⟨⟨_, rfl⟩, ?_⟩ | refine ⟨Nat.le_of_ble_eq_true rfl, ?_⟩)
      have e4 : ((List.range x0.length).map fun i : Nat => D.int (i : Int)).map (fun d => match d with | .int j => D.bl (colB ds j.toNat) | _ => .bl false) = ((List.range x0.length).map fun i : Nat => D.int (i : Int)).map fun d => D.bl (match d with | .int j => colB ds j.toNat | _ => false) := by
        rw [List.map_map, List.map_map]
        rfl
      rw [e4]
      refine ⟨_, all_bl, _, rfl, ?_⟩
      show _ = D.bl (lbL ds)
      rw [split, h7, Bool.true_and, hd0, List.all_map]
      rfl
  obtain ⟨r, e, rfl⟩ := key
  exact e
theorem judged_ok {A : Adr} (g : Good A) {v : D} (b : Bd 3 v) : m__law_is_judged A [v] = some (.ok (.bl true)) := by
  obtain ⟨i1, i2⟩ := init_ok g b
  have la := law_are_ok (A := A) b
  obtain ⟨z, hz⟩ := rep_ok b
  have key : ∃ r, m__law_is_judged A [v] = some (.ok r) ∧ r = .bl true := by
    unfold m__law_is_judged
    refine fnX rfl (P := fun r => r = .bl true) ?_
    cases q : lB v with
    | true =>
      obtain ⟨gs, e⟩ := i1 q
      have ref : Ok (mRef A.ke (mMake (A.a "Board") (m_Board___init__ A) (mCons (mVar 0) mNil))) (startE 2 [v]) fun d e => d = .non ∧ e = startE 2 [v] := by
        refine ⟨.non, startE 2 [v], ?_, rfl, rfl⟩
        have e1 : mMake (A.a "Board") (m_Board___init__ A) (mCons (mVar 0) mNil) (startE 2 [v]) = some (.ok (.obj (A.a "Board") gs), startE 2 [v]) := by
          have e2 : mCons (mVar 0) mNil (startE 2 [v]) = some (.ok [v], startE 2 [v]) := rfl
          unfold mMake bnd rs
          rw [e2]
          simp only [e, Option.map_some]
          rfl
        unfold mRef
        rw [e1]
      refine sq_set (ref.mono ?_)
      rintro _ _ ⟨rfl, rfl⟩
      refine dn_seq (dn_if ?_)
      repeat (first | with_reducible refine ok_op ?_ | with_reducible refine ok_un ?_ | with_reducible refine ok_cb ?_ | with_reducible refine ok_cons ?_ | with_reducible refine ok_nil ?_ | with_reducible refine ok_giv ?_ | with_reducible refine ok_lst ?_ | with_reducible refine ok_tup ?_ | with_reducible refine ok_dic ?_ | with_reducible refine ok_bool ?_ | with_reducible refine ok_not ?_ | with_reducible refine ok_notV ?_ | with_reducible refine ok_sl ?_ | with_reducible refine ok_part ?_ | with_reducible refine ok_join ?_ | with_reducible refine ok_it ?_ | with_reducible refine ok_itA ?_ | with_reducible refine ok_call0 ?_ | with_reducible refine ok_callN ?_ | with_reducible refine ok_chain ?_ | ((with_reducible apply ok_var); rfl) | ((with_reducible apply ok_varL); rfl) | ((with_reducible apply ok_ixN); rfl) | ((with_reducible apply ok_ixM); rfl) | ((with_reducible apply ok_lenN); rfl) | ((with_reducible apply ok_lenM); rfl) | ((with_reducible apply ok_callY); rfl) | with_reducible refine dn_set ?_ | with_reducible refine dn_ret ?_ | with_reducible refine dn_retN ?_ | with_reducible refine dn_new ?_ | with_reducible refine dn_parN ?_ | with_reducible refine dn_par ?_ | with_reducible refine dn_pair ?_ | with_reducible refine dn_raise ?_ | ((with_reducible apply dn_app); rfl) | with_reducible refine dn_item ?_ | with_reducible refine sq_set ?_ | with_reducible refine sq_pair ?_ | with_reducible refine sq_par ?_ | with_reducible refine sq_parN ?_ | with_reducible refine sq_new ?_ | with_reducible refine sq_item ?_ | ((with_reducible apply sq_app); rfl) | refine ⟨_, _, _, rfl, rfl, rfl, ?_⟩ | refine ⟨_, rfl, ?_⟩ | refine ⟨⟨_, rfl⟩, ?_⟩ | refine ⟨Nat.le_of_ble_eq_true rfl, ?_⟩)
      refine ⟨_, la, _, rfl, fun _ => ?_, fun h => ?_⟩
      · repeat (first | with_reducible refine ok_op ?_ | with_reducible refine ok_un ?_ | with_reducible refine ok_cb ?_ | with_reducible refine ok_cons ?_ | with_reducible refine ok_nil ?_ | with_reducible refine ok_giv ?_ | with_reducible refine ok_lst ?_ | with_reducible refine ok_tup ?_ | with_reducible refine ok_dic ?_ | with_reducible refine ok_bool ?_ | with_reducible refine ok_not ?_ | with_reducible refine ok_notV ?_ | with_reducible refine ok_sl ?_ | with_reducible refine ok_part ?_ | with_reducible refine ok_join ?_ | with_reducible refine ok_it ?_ | with_reducible refine ok_itA ?_ | with_reducible refine ok_call0 ?_ | with_reducible refine ok_callN ?_ | with_reducible refine ok_chain ?_ | ((with_reducible apply ok_var); rfl) | ((with_reducible apply ok_varL); rfl) | ((with_reducible apply ok_ixN); rfl) | ((with_reducible apply ok_ixM); rfl) | ((with_reducible apply ok_lenN); rfl) | ((with_reducible apply ok_lenM); rfl) | ((with_reducible apply ok_callY); rfl) | with_reducible refine dn_set ?_ | with_reducible refine dn_ret ?_ | with_reducible refine dn_retN ?_ | with_reducible refine dn_new ?_ | with_reducible refine dn_parN ?_ | with_reducible refine dn_par ?_ | with_reducible refine dn_pair ?_ | with_reducible refine dn_raise ?_ | ((with_reducible apply dn_app); rfl) | with_reducible refine dn_item ?_ | with_reducible refine sq_set ?_ | with_reducible refine sq_pair ?_ | with_reducible refine sq_par ?_ | with_reducible refine sq_parN ?_ | with_reducible refine sq_new ?_ | with_reducible refine sq_item ?_ | ((with_reducible apply sq_app); rfl) | refine ⟨_, _, _, rfl, rfl, rfl, ?_⟩ | refine ⟨_, rfl, ?_⟩ | refine ⟨⟨_, rfl⟩, ?_⟩ | refine ⟨Nat.le_of_ble_eq_true rfl, ?_⟩)
        exact ⟨(fun z => nomatch z), fun _ => ⟨_, rfl, rfl⟩⟩
      · rw [q] at h
        cases h
    | false =>
      have e := i2 q
      have ref : Ok (mRef A.ke (mMake (A.a "Board") (m_Board___init__ A) (mCons (mVar 0) mNil))) (startE 2 [v]) fun d e => d = .err (A.a "BadBoard") [("value", v)] ∧ e = startE 2 [v] := by
        refine ⟨_, startE 2 [v], ?_, rfl, rfl⟩
        have e1 : mMake (A.a "Board") (m_Board___init__ A) (mCons (mVar 0) mNil) (startE 2 [v]) = some (.ex (A.a "BadBoard") v, startE 2 [v]) := by
          have e2 : mCons (mVar 0) mNil (startE 2 [v]) = some (.ok [v], startE 2 [v]) := rfl
          unfold mMake bnd rs
          rw [e2]
          simp only [e, Option.map_some]
        unfold mRef
        rw [e1]
        exact if_pos g.ke_BadBoard
      refine sq_set (ref.mono ?_)
      rintro _ _ ⟨rfl, rfl⟩
      refine dn_seq (dn_if ?_)
      repeat (first | with_reducible refine ok_op ?_ | with_reducible refine ok_un ?_ | with_reducible refine ok_cb ?_ | with_reducible refine ok_cons ?_ | with_reducible refine ok_nil ?_ | with_reducible refine ok_giv ?_ | with_reducible refine ok_lst ?_ | with_reducible refine ok_tup ?_ | with_reducible refine ok_dic ?_ | with_reducible refine ok_bool ?_ | with_reducible refine ok_not ?_ | with_reducible refine ok_notV ?_ | with_reducible refine ok_sl ?_ | with_reducible refine ok_part ?_ | with_reducible refine ok_join ?_ | with_reducible refine ok_it ?_ | with_reducible refine ok_itA ?_ | with_reducible refine ok_call0 ?_ | with_reducible refine ok_callN ?_ | with_reducible refine ok_chain ?_ | ((with_reducible apply ok_var); rfl) | ((with_reducible apply ok_varL); rfl) | ((with_reducible apply ok_ixN); rfl) | ((with_reducible apply ok_ixM); rfl) | ((with_reducible apply ok_lenN); rfl) | ((with_reducible apply ok_lenM); rfl) | ((with_reducible apply ok_callY); rfl) | with_reducible refine dn_set ?_ | with_reducible refine dn_ret ?_ | with_reducible refine dn_retN ?_ | with_reducible refine dn_new ?_ | with_reducible refine dn_parN ?_ | with_reducible refine dn_par ?_ | with_reducible refine dn_pair ?_ | with_reducible refine dn_raise ?_ | ((with_reducible apply dn_app); rfl) | with_reducible refine dn_item ?_ | with_reducible refine sq_set ?_ | with_reducible refine sq_pair ?_ | with_reducible refine sq_par ?_ | with_reducible refine sq_parN ?_ | with_reducible refine sq_new ?_ | with_reducible refine sq_item ?_ | ((with_reducible apply sq_app); rfl) | refine ⟨_, _, _, rfl, rfl, rfl, ?_⟩ | refine ⟨_, rfl, ?_⟩ | refine ⟨⟨_, rfl⟩, ?_⟩ | refine ⟨Nat.le_of_ble_eq_true rfl, ?_⟩)
      refine ⟨_, la, _, rfl, fun h => ?_, fun _ => dn_nx ⟨fun _ => ?_, fun z => absurd rfl z⟩⟩
      · rw [q] at h
        cases h
      have is1 : isEr A "BadBoard" (.err (A.a "BadBoard") [("value", v)]) = some (.bl true) := by
        show (if A.ke (A.a "BadBoard") then some (decide (A.a "BadBoard" = A.a "BadBoard") || "BadBoard" == "WireError") else none).map D.bl = _
        rw [if_pos g.ke_BadBoard, decide_eq_true rfl, Bool.true_or]
        rfl
      have is2 : isEr A "BadRows" (.err (A.a "BadBoard") [("value", v)]) = some (.bl false) := by
        show (if A.ke (A.a "BadBoard") then some (decide (A.a "BadBoard" = A.a "BadRows") || "BadRows" == "WireError") else none).map D.bl = _
        rw [if_pos g.ke_BadBoard, decide_eq_false g.ne_BadBoard_BadRows, Bool.false_or]
        rfl
      have vl : valF A.ke "value" (.err (A.a "BadBoard") [("value", v)]) = some v := by
        show (if A.ke (A.a "BadBoard") then _ else none) = _
        rw [if_pos g.ke_BadBoard]
        rfl
      refine dn_ret (ok_andV ?_)
      repeat (first | with_reducible refine ok_op ?_ | with_reducible refine ok_un ?_ | with_reducible refine ok_cb ?_ | with_reducible refine ok_cons ?_ | with_reducible refine ok_nil ?_ | with_reducible refine ok_giv ?_ | with_reducible refine ok_lst ?_ | with_reducible refine ok_tup ?_ | with_reducible refine ok_dic ?_ | with_reducible refine ok_bool ?_ | with_reducible refine ok_not ?_ | with_reducible refine ok_notV ?_ | with_reducible refine ok_sl ?_ | with_reducible refine ok_part ?_ | with_reducible refine ok_join ?_ | with_reducible refine ok_it ?_ | with_reducible refine ok_itA ?_ | with_reducible refine ok_call0 ?_ | with_reducible refine ok_callN ?_ | with_reducible refine ok_chain ?_ | ((with_reducible apply ok_var); rfl) | ((with_reducible apply ok_varL); rfl) | ((with_reducible apply ok_ixN); rfl) | ((with_reducible apply ok_ixM); rfl) | ((with_reducible apply ok_lenN); rfl) | ((with_reducible apply ok_lenM); rfl) | ((with_reducible apply ok_callY); rfl) | with_reducible refine dn_set ?_ | with_reducible refine dn_ret ?_ | with_reducible refine dn_retN ?_ | with_reducible refine dn_new ?_ | with_reducible refine dn_parN ?_ | with_reducible refine dn_par ?_ | with_reducible refine dn_pair ?_ | with_reducible refine dn_raise ?_ | ((with_reducible apply dn_app); rfl) | with_reducible refine dn_item ?_ | with_reducible refine sq_set ?_ | with_reducible refine sq_pair ?_ | with_reducible refine sq_par ?_ | with_reducible refine sq_parN ?_ | with_reducible refine sq_new ?_ | with_reducible refine sq_item ?_ | ((with_reducible apply sq_app); rfl) | refine ⟨_, _, _, rfl, rfl, rfl, ?_⟩ | refine ⟨_, rfl, ?_⟩ | refine ⟨⟨_, rfl⟩, ?_⟩ | refine ⟨Nat.le_of_ble_eq_true rfl, ?_⟩)
      refine ⟨_, is1, _, rfl, fun _ => ok_andV ?_, fun z => (nomatch z)⟩
      repeat (first | with_reducible refine ok_op ?_ | with_reducible refine ok_un ?_ | with_reducible refine ok_cb ?_ | with_reducible refine ok_cons ?_ | with_reducible refine ok_nil ?_ | with_reducible refine ok_giv ?_ | with_reducible refine ok_lst ?_ | with_reducible refine ok_tup ?_ | with_reducible refine ok_dic ?_ | with_reducible refine ok_bool ?_ | with_reducible refine ok_not ?_ | with_reducible refine ok_notV ?_ | with_reducible refine ok_sl ?_ | with_reducible refine ok_part ?_ | with_reducible refine ok_join ?_ | with_reducible refine ok_it ?_ | with_reducible refine ok_itA ?_ | with_reducible refine ok_call0 ?_ | with_reducible refine ok_callN ?_ | with_reducible refine ok_chain ?_ | ((with_reducible apply ok_var); rfl) | ((with_reducible apply ok_varL); rfl) | ((with_reducible apply ok_ixN); rfl) | ((with_reducible apply ok_ixM); rfl) | ((with_reducible apply ok_lenN); rfl) | ((with_reducible apply ok_lenM); rfl) | ((with_reducible apply ok_callY); rfl) | with_reducible refine dn_set ?_ | with_reducible refine dn_ret ?_ | with_reducible refine dn_retN ?_ | with_reducible refine dn_new ?_ | with_reducible refine dn_parN ?_ | with_reducible refine dn_par ?_ | with_reducible refine dn_pair ?_ | with_reducible refine dn_raise ?_ | ((with_reducible apply dn_app); rfl) | with_reducible refine dn_item ?_ | with_reducible refine sq_set ?_ | with_reducible refine sq_pair ?_ | with_reducible refine sq_par ?_ | with_reducible refine sq_parN ?_ | with_reducible refine sq_new ?_ | with_reducible refine sq_item ?_ | ((with_reducible apply sq_app); rfl) | refine ⟨_, _, _, rfl, rfl, rfl, ?_⟩ | refine ⟨_, rfl, ?_⟩ | refine ⟨⟨_, rfl⟩, ?_⟩ | refine ⟨Nat.le_of_ble_eq_true rfl, ?_⟩)
      refine ⟨_, is2, _, rfl, _, rfl, fun _ => ?_, fun z => (nomatch z)⟩
      repeat (first | with_reducible refine ok_op ?_ | with_reducible refine ok_un ?_ | with_reducible refine ok_cb ?_ | with_reducible refine ok_cons ?_ | with_reducible refine ok_nil ?_ | with_reducible refine ok_giv ?_ | with_reducible refine ok_lst ?_ | with_reducible refine ok_tup ?_ | with_reducible refine ok_dic ?_ | with_reducible refine ok_bool ?_ | with_reducible refine ok_not ?_ | with_reducible refine ok_notV ?_ | with_reducible refine ok_sl ?_ | with_reducible refine ok_part ?_ | with_reducible refine ok_join ?_ | with_reducible refine ok_it ?_ | with_reducible refine ok_itA ?_ | with_reducible refine ok_call0 ?_ | with_reducible refine ok_callN ?_ | with_reducible refine ok_chain ?_ | ((with_reducible apply ok_var); rfl) | ((with_reducible apply ok_varL); rfl) | ((with_reducible apply ok_ixN); rfl) | ((with_reducible apply ok_ixM); rfl) | ((with_reducible apply ok_lenN); rfl) | ((with_reducible apply ok_lenM); rfl) | ((with_reducible apply ok_callY); rfl) | with_reducible refine dn_set ?_ | with_reducible refine dn_ret ?_ | with_reducible refine dn_retN ?_ | with_reducible refine dn_new ?_ | with_reducible refine dn_parN ?_ | with_reducible refine dn_par ?_ | with_reducible refine dn_pair ?_ | with_reducible refine dn_raise ?_ | ((with_reducible apply dn_app); rfl) | with_reducible refine dn_item ?_ | with_reducible refine sq_set ?_ | with_reducible refine sq_pair ?_ | with_reducible refine sq_par ?_ | with_reducible refine sq_parN ?_ | with_reducible refine sq_new ?_ | with_reducible refine sq_item ?_ | ((with_reducible apply sq_app); rfl) | refine ⟨_, _, _, rfl, rfl, rfl, ?_⟩ | refine ⟨_, rfl, ?_⟩ | refine ⟨⟨_, rfl⟩, ?_⟩ | refine ⟨Nat.le_of_ble_eq_true rfl, ?_⟩)
      refine ⟨_, vl, ?_⟩
      repeat (first | with_reducible refine ok_op ?_ | with_reducible refine ok_un ?_ | with_reducible refine ok_cb ?_ | with_reducible refine ok_cons ?_ | with_reducible refine ok_nil ?_ | with_reducible refine ok_giv ?_ | with_reducible refine ok_lst ?_ | with_reducible refine ok_tup ?_ | with_reducible refine ok_dic ?_ | with_reducible refine ok_bool ?_ | with_reducible refine ok_not ?_ | with_reducible refine ok_notV ?_ | with_reducible refine ok_sl ?_ | with_reducible refine ok_part ?_ | with_reducible refine ok_join ?_ | with_reducible refine ok_it ?_ | with_reducible refine ok_itA ?_ | with_reducible refine ok_call0 ?_ | with_reducible refine ok_callN ?_ | with_reducible refine ok_chain ?_ | ((with_reducible apply ok_var); rfl) | ((with_reducible apply ok_varL); rfl) | ((with_reducible apply ok_ixN); rfl) | ((with_reducible apply ok_ixM); rfl) | ((with_reducible apply ok_lenN); rfl) | ((with_reducible apply ok_lenM); rfl) | ((with_reducible apply ok_callY); rfl) | with_reducible refine dn_set ?_ | with_reducible refine dn_ret ?_ | with_reducible refine dn_retN ?_ | with_reducible refine dn_new ?_ | with_reducible refine dn_parN ?_ | with_reducible refine dn_par ?_ | with_reducible refine dn_pair ?_ | with_reducible refine dn_raise ?_ | ((with_reducible apply dn_app); rfl) | with_reducible refine dn_item ?_ | with_reducible refine sq_set ?_ | with_reducible refine sq_pair ?_ | with_reducible refine sq_par ?_ | with_reducible refine sq_parN ?_ | with_reducible refine sq_new ?_ | with_reducible refine sq_item ?_ | ((with_reducible apply sq_app); rfl) | refine ⟨_, _, _, rfl, rfl, rfl, ?_⟩ | refine ⟨_, rfl, ?_⟩ | refine ⟨⟨_, rfl⟩, ?_⟩ | refine ⟨Nat.le_of_ble_eq_true rfl, ?_⟩)
      refine ⟨_, hz, ?_⟩
      repeat (first | with_reducible refine ok_op ?_ | with_reducible refine ok_un ?_ | with_reducible refine ok_cb ?_ | with_reducible refine ok_cons ?_ | with_reducible refine ok_nil ?_ | with_reducible refine ok_giv ?_ | with_reducible refine ok_lst ?_ | with_reducible refine ok_tup ?_ | with_reducible refine ok_dic ?_ | with_reducible refine ok_bool ?_ | with_reducible refine ok_not ?_ | with_reducible refine ok_notV ?_ | with_reducible refine ok_sl ?_ | with_reducible refine ok_part ?_ | with_reducible refine ok_join ?_ | with_reducible refine ok_it ?_ | with_reducible refine ok_itA ?_ | with_reducible refine ok_call0 ?_ | with_reducible refine ok_callN ?_ | with_reducible refine ok_chain ?_ | ((with_reducible apply ok_var); rfl) | ((with_reducible apply ok_varL); rfl) | ((with_reducible apply ok_ixN); rfl) | ((with_reducible apply ok_ixM); rfl) | ((with_reducible apply ok_lenN); rfl) | ((with_reducible apply ok_lenM); rfl) | ((with_reducible apply ok_callY); rfl) | with_reducible refine dn_set ?_ | with_reducible refine dn_ret ?_ | with_reducible refine dn_retN ?_ | with_reducible refine dn_new ?_ | with_reducible refine dn_parN ?_ | with_reducible refine dn_par ?_ | with_reducible refine dn_pair ?_ | with_reducible refine dn_raise ?_ | ((with_reducible apply dn_app); rfl) | with_reducible refine dn_item ?_ | with_reducible refine sq_set ?_ | with_reducible refine sq_pair ?_ | with_reducible refine sq_par ?_ | with_reducible refine sq_parN ?_ | with_reducible refine sq_new ?_ | with_reducible refine sq_item ?_ | ((with_reducible apply sq_app); rfl) | refine ⟨_, _, _, rfl, rfl, rfl, ?_⟩ | refine ⟨_, rfl, ?_⟩ | refine ⟨⟨_, rfl⟩, ?_⟩ | refine ⟨Nat.le_of_ble_eq_true rfl, ?_⟩)
      refine ⟨_, hz, _, rfl, _, rfl, ?_⟩
      show D.bl (decide (z = z)) = _
      rw [decide_eq_true rfl]
  obtain ⟨r, e, rfl⟩ := key
  exact e
end L02
namespace L02
open PySem L2 Wd
/-! ### a cell's boards -/
theorem mul_t {x : D} {j : Int} (h0 : 1 ≤ j) (h1 : j ≤ 11) : ∃ l, mulX (.tup [x]) (.int j) = some (.tup l) ∧ l.length ≤ 11 ∧ ∀ d ∈ l, d = x := by
  by_cases q : j = 1
  · subst q
    exact ⟨[x], rfl, by simp, fun d hd => List.mem_singleton.mp hd⟩
  · refine ⟨(List.replicate j.toNat [x]).flatten, ?_, ?_, fun d hd => ?_⟩
    · show (if j = 1 then some (D.tup [x]) else (if (decide (2 ≤ j) && decide (j ≤ 1000) && decide (([x] : List D).length ≤ 1000) && !([x] : List D).isEmpty) = true then some (D.tup (List.replicate j.toNat [x]).flatten) else none)) = _
      rw [if_neg q, decide_eq_true (by omega), decide_eq_true (by omega), decide_eq_true (by simp)]
      rfl
    · rw [List.length_flatten, List.map_replicate, List.sum_replicate_nat]
      simp
      omega
    · obtain ⟨l, hl, hm⟩ := List.mem_flatten.mp hd
      rw [(List.mem_replicate.mp hl).2] at hm
      exact List.mem_singleton.mp hm
theorem bd_copies {x : Str} (h : x.length ≤ 30) (q : ∀ c ∈ x.cps.toList, c < 1114112) {l : List D} (hl : l.length ≤ 11) (e : ∀ d ∈ l, d = .str x) : Bd 3 (.tup l) := .tup _ _ (by omega) fun d hd => by
  rw [e d hd]
  exact .str _ _ ⟨h, q⟩
theorem o_chr : ∀ c ∈ (("o" : String) : Str).cps.toList, c < 1114112 := by decide
theorem o_len : (("o" : String) : Str).length = 1 := by decide
theorem right_ok {A : Adr} (g : Good A) {ms : List D} (p : Pot 0 ms) : ∃ ms', m__law_right A ms [] = some (.bl true, ms') := by
  have key : ∃ d ms', m__law_right A ms [] = some (d, ms') ∧ d = .bl true := by
    unfold m__law_right
    refine fnY rfl (P := fun d _ => d = .bl true) ?_
    repeat (first | with_reducible refine ok_op ?_ | with_reducible refine ok_un ?_ | with_reducible refine ok_cb ?_ | with_reducible refine ok_cons ?_ | with_reducible refine ok_nil ?_ | with_reducible refine ok_giv ?_ | with_reducible refine ok_lst ?_ | with_reducible refine ok_tup ?_ | with_reducible refine ok_dic ?_ | with_reducible refine ok_bool ?_ | with_reducible refine ok_not ?_ | with_reducible refine ok_notV ?_ | with_reducible refine ok_sl ?_ | with_reducible refine ok_part ?_ | with_reducible refine ok_join ?_ | with_reducible refine ok_it ?_ | with_reducible refine ok_itA ?_ | with_reducible refine ok_call0 ?_ | with_reducible refine ok_callN ?_ | with_reducible refine ok_chain ?_ | ((with_reducible apply ok_var); rfl) | ((with_reducible apply ok_varL); rfl) | ((with_reducible apply ok_ixN); rfl) | ((with_reducible apply ok_ixM); rfl) | ((with_reducible apply ok_lenN); rfl) | ((with_reducible apply ok_lenM); rfl) | ((with_reducible apply ok_callY); rfl) | with_reducible refine dn_set ?_ | with_reducible refine dn_ret ?_ | with_reducible refine dn_retN ?_ | with_reducible refine dn_new ?_ | with_reducible refine dn_parN ?_ | with_reducible refine dn_par ?_ | with_reducible refine dn_pair ?_ | with_reducible refine dn_raise ?_ | ((with_reducible apply dn_app); rfl) | with_reducible refine dn_item ?_ | with_reducible refine sq_set ?_ | with_reducible refine sq_pair ?_ | with_reducible refine sq_par ?_ | with_reducible refine sq_parN ?_ | with_reducible refine sq_new ?_ | with_reducible refine sq_item ?_ | ((with_reducible apply sq_app); rfl) | refine ⟨_, _, _, rfl, rfl, rfl, ?_⟩ | refine ⟨_, rfl, ?_⟩ | refine ⟨⟨_, rfl⟩, ?_⟩ | refine ⟨Nat.le_of_ble_eq_true rfl, ?_⟩)
    obtain ⟨n, m1, e1, hn, p1⟩ := of_ok (A := A) (l := [.int 10, .int 4, .int 2]) p (by decide) (by decide) (by decide)
    refine ⟨_, _, e1, ?_⟩
    obtain ⟨n, rfl, n0, n1⟩ : ∃ j : Int, n = .int j ∧ 0 < j ∧ j ≤ 10 := by
      simp only [List.mem_cons, List.not_mem_nil, or_false] at hn
      rcases hn with rfl | rfl | rfl <;> exact ⟨_, rfl, by decide, by decide⟩
    repeat (first | with_reducible refine ok_op ?_ | with_reducible refine ok_un ?_ | with_reducible refine ok_cb ?_ | with_reducible refine ok_cons ?_ | with_reducible refine ok_nil ?_ | with_reducible refine ok_giv ?_ | with_reducible refine ok_lst ?_ | with_reducible refine ok_tup ?_ | with_reducible refine ok_dic ?_ | with_reducible refine ok_bool ?_ | with_reducible refine ok_not ?_ | with_reducible refine ok_notV ?_ | with_reducible refine ok_sl ?_ | with_reducible refine ok_part ?_ | with_reducible refine ok_join ?_ | with_reducible refine ok_it ?_ | with_reducible refine ok_itA ?_ | with_reducible refine ok_call0 ?_ | with_reducible refine ok_callN ?_ | with_reducible refine ok_chain ?_ | ((with_reducible apply ok_var); rfl) | ((with_reducible apply ok_varL); rfl) | ((with_reducible apply ok_ixN); rfl) | ((with_reducible apply ok_ixM); rfl) | ((with_reducible apply ok_lenN); rfl) | ((with_reducible apply ok_lenM); rfl) | ((with_reducible apply ok_callY); rfl) | with_reducible refine dn_set ?_ | with_reducible refine dn_ret ?_ | with_reducible refine dn_retN ?_ | with_reducible refine dn_new ?_ | with_reducible refine dn_parN ?_ | with_reducible refine dn_par ?_ | with_reducible refine dn_pair ?_ | with_reducible refine dn_raise ?_ | ((with_reducible apply dn_app); rfl) | with_reducible refine dn_item ?_ | with_reducible refine sq_set ?_ | with_reducible refine sq_pair ?_ | with_reducible refine sq_par ?_ | with_reducible refine sq_parN ?_ | with_reducible refine sq_new ?_ | with_reducible refine sq_item ?_ | ((with_reducible apply sq_app); rfl) | refine ⟨_, _, _, rfl, rfl, rfl, ?_⟩ | refine ⟨_, rfl, ?_⟩ | refine ⟨⟨_, rfl⟩, ?_⟩ | refine ⟨Nat.le_of_ble_eq_true rfl, ?_⟩)
    obtain ⟨_, m2, e2, ⟨h, w, h0, w0, h1, w1, ds, rfl, dl, dr⟩, p2⟩ := small_ok (A := A) p1 (by decide) n0 n1
    refine ⟨_, _, e2, ?_⟩
    have v0 : Vl 10 10 ds := ⟨by omega, fun d hd => by
      obtain ⟨x, rfl, a, b⟩ := dr d hd
      exact cell_str (by omega) (by decide) b⟩
    refine dn_sNx (dn_for ?_)
    repeat (first | with_reducible refine ok_op ?_ | with_reducible refine ok_un ?_ | with_reducible refine ok_cb ?_ | with_reducible refine ok_cons ?_ | with_reducible refine ok_nil ?_ | with_reducible refine ok_giv ?_ | with_reducible refine ok_lst ?_ | with_reducible refine ok_tup ?_ | with_reducible refine ok_dic ?_ | with_reducible refine ok_bool ?_ | with_reducible refine ok_not ?_ | with_reducible refine ok_notV ?_ | with_reducible refine ok_sl ?_ | with_reducible refine ok_part ?_ | with_reducible refine ok_join ?_ | with_reducible refine ok_it ?_ | with_reducible refine ok_itA ?_ | with_reducible refine ok_call0 ?_ | with_reducible refine ok_callN ?_ | with_reducible refine ok_chain ?_ | ((with_reducible apply ok_var); rfl) | ((with_reducible apply ok_varL); rfl) | ((with_reducible apply ok_ixN); rfl) | ((with_reducible apply ok_ixM); rfl) | ((with_reducible apply ok_lenN); rfl) | ((with_reducible apply ok_lenM); rfl) | ((with_reducible apply ok_callY); rfl) | with_reducible refine dn_set ?_ | with_reducible refine dn_ret ?_ | with_reducible refine dn_retN ?_ | with_reducible refine dn_new ?_ | with_reducible refine dn_parN ?_ | with_reducible refine dn_par ?_ | with_reducible refine dn_pair ?_ | with_reducible refine dn_raise ?_ | ((with_reducible apply dn_app); rfl) | with_reducible refine dn_item ?_ | with_reducible refine sq_set ?_ | with_reducible refine sq_pair ?_ | with_reducible refine sq_par ?_ | with_reducible refine sq_parN ?_ | with_reducible refine sq_new ?_ | with_reducible refine sq_item ?_ | ((with_reducible apply sq_app); rfl) | refine ⟨_, _, _, rfl, rfl, rfl, ?_⟩ | refine ⟨_, rfl, ?_⟩ | refine ⟨⟨_, rfl⟩, ?_⟩ | refine ⟨Nat.le_of_ble_eq_true rfl, ?_⟩)
    have e12 : rngL 12 = (List.range 12).map fun i : Nat => D.int (i : Int) := rfl
    rw [e12]
    refine ⟨fun i ε => ∃ (ms : List D) (s2 s3 s4 s5 s6 : Slo), ε = [.mls ms, .dat (.tup ds), s2, s3, s4, s5, s6] ∧ Pot (200 + 50 * (i : Nat)) ms, ?_, ?_, ?_⟩
    · exact ⟨m2, _, _, _, _, _, rfl, p2.mono (by decide)⟩
    · rintro i y ε hy ⟨ms, s2, s3, s4, s5, s6, rfl, p3⟩
      obtain ⟨rfl, hi⟩ := rng_at hy
      refine ⟨_, rfl, ?_⟩
      repeat (first | with_reducible refine ok_op ?_ | with_reducible refine ok_un ?_ | with_reducible refine ok_cb ?_ | with_reducible refine ok_cons ?_ | with_reducible refine ok_nil ?_ | with_reducible refine ok_giv ?_ | with_reducible refine ok_lst ?_ | with_reducible refine ok_tup ?_ | with_reducible refine ok_dic ?_ | with_reducible refine ok_bool ?_ | with_reducible refine ok_not ?_ | with_reducible refine ok_notV ?_ | with_reducible refine ok_sl ?_ | with_reducible refine ok_part ?_ | with_reducible refine ok_join ?_ | with_reducible refine ok_it ?_ | with_reducible refine ok_itA ?_ | with_reducible refine ok_call0 ?_ | with_reducible refine ok_callN ?_ | with_reducible refine ok_chain ?_ | ((with_reducible apply ok_var); rfl) | ((with_reducible apply ok_varL); rfl) | ((with_reducible apply ok_ixN); rfl) | ((with_reducible apply ok_ixM); rfl) | ((with_reducible apply ok_lenN); rfl) | ((with_reducible apply ok_lenM); rfl) | ((with_reducible apply ok_callY); rfl) | with_reducible refine dn_set ?_ | with_reducible refine dn_ret ?_ | with_reducible refine dn_retN ?_ | with_reducible refine dn_new ?_ | with_reducible refine dn_parN ?_ | with_reducible refine dn_par ?_ | with_reducible refine dn_pair ?_ | with_reducible refine dn_raise ?_ | ((with_reducible apply dn_app); rfl) | with_reducible refine dn_item ?_ | with_reducible refine sq_set ?_ | with_reducible refine sq_pair ?_ | with_reducible refine sq_par ?_ | with_reducible refine sq_parN ?_ | with_reducible refine sq_new ?_ | with_reducible refine sq_item ?_ | ((with_reducible apply sq_app); rfl) | refine ⟨_, _, _, rfl, rfl, rfl, ?_⟩ | refine ⟨_, rfl, ?_⟩ | refine ⟨⟨_, rfl⟩, ?_⟩ | refine ⟨Nat.le_of_ble_eq_true rfl, ?_⟩)
      obtain ⟨d, m4, e4, vd, p4⟩ := bent_ok (A := A) p3 (by omega) v0 (by decide) (by decide) (by decide) (by omega)
      refine ⟨_, _, e4, ?_⟩
      refine dn_sNx (dn_for ?_)
      repeat (first | with_reducible refine ok_op ?_ | with_reducible refine ok_un ?_ | with_reducible refine ok_cb ?_ | with_reducible refine ok_cons ?_ | with_reducible refine ok_nil ?_ | with_reducible refine ok_giv ?_ | with_reducible refine ok_lst ?_ | with_reducible refine ok_tup ?_ | with_reducible refine ok_dic ?_ | with_reducible refine ok_bool ?_ | with_reducible refine ok_not ?_ | with_reducible refine ok_notV ?_ | with_reducible refine ok_sl ?_ | with_reducible refine ok_part ?_ | with_reducible refine ok_join ?_ | with_reducible refine ok_it ?_ | with_reducible refine ok_itA ?_ | with_reducible refine ok_call0 ?_ | with_reducible refine ok_callN ?_ | with_reducible refine ok_chain ?_ | ((with_reducible apply ok_var); rfl) | ((with_reducible apply ok_varL); rfl) | ((with_reducible apply ok_ixN); rfl) | ((with_reducible apply ok_ixM); rfl) | ((with_reducible apply ok_lenN); rfl) | ((with_reducible apply ok_lenM); rfl) | ((with_reducible apply ok_callY); rfl) | with_reducible refine dn_set ?_ | with_reducible refine dn_ret ?_ | with_reducible refine dn_retN ?_ | with_reducible refine dn_new ?_ | with_reducible refine dn_parN ?_ | with_reducible refine dn_par ?_ | with_reducible refine dn_pair ?_ | with_reducible refine dn_raise ?_ | ((with_reducible apply dn_app); rfl) | with_reducible refine dn_item ?_ | with_reducible refine sq_set ?_ | with_reducible refine sq_pair ?_ | with_reducible refine sq_par ?_ | with_reducible refine sq_parN ?_ | with_reducible refine sq_new ?_ | with_reducible refine sq_item ?_ | ((with_reducible apply sq_app); rfl) | refine ⟨_, _, _, rfl, rfl, rfl, ?_⟩ | refine ⟨_, rfl, ?_⟩ | refine ⟨⟨_, rfl⟩, ?_⟩ | refine ⟨Nat.le_of_ble_eq_true rfl, ?_⟩)
      obtain ⟨_, m5, e5, ⟨t, rfl, t0, t1⟩, p5⟩ := take_ok (A := A) (u := 3) p4 (by omega) (by decide) (by decide)
      refine ⟨_, _, e5, ?_⟩
      repeat (first | with_reducible refine ok_op ?_ | with_reducible refine ok_un ?_ | with_reducible refine ok_cb ?_ | with_reducible refine ok_cons ?_ | with_reducible refine ok_nil ?_ | with_reducible refine ok_giv ?_ | with_reducible refine ok_lst ?_ | with_reducible refine ok_tup ?_ | with_reducible refine ok_dic ?_ | with_reducible refine ok_bool ?_ | with_reducible refine ok_not ?_ | with_reducible refine ok_notV ?_ | with_reducible refine ok_sl ?_ | with_reducible refine ok_part ?_ | with_reducible refine ok_join ?_ | with_reducible refine ok_it ?_ | with_reducible refine ok_itA ?_ | with_reducible refine ok_call0 ?_ | with_reducible refine ok_callN ?_ | with_reducible refine ok_chain ?_ | ((with_reducible apply ok_var); rfl) | ((with_reducible apply ok_varL); rfl) | ((with_reducible apply ok_ixN); rfl) | ((with_reducible apply ok_ixM); rfl) | ((with_reducible apply ok_lenN); rfl) | ((with_reducible apply ok_lenM); rfl) | ((with_reducible apply ok_callY); rfl) | with_reducible refine dn_set ?_ | with_reducible refine dn_ret ?_ | with_reducible refine dn_retN ?_ | with_reducible refine dn_new ?_ | with_reducible refine dn_parN ?_ | with_reducible refine dn_par ?_ | with_reducible refine dn_pair ?_ | with_reducible refine dn_raise ?_ | ((with_reducible apply dn_app); rfl) | with_reducible refine dn_item ?_ | with_reducible refine sq_set ?_ | with_reducible refine sq_pair ?_ | with_reducible refine sq_par ?_ | with_reducible refine sq_parN ?_ | with_reducible refine sq_new ?_ | with_reducible refine sq_item ?_ | ((with_reducible apply sq_app); rfl) | refine ⟨_, _, _, rfl, rfl, rfl, ?_⟩ | refine ⟨_, rfl, ?_⟩ | refine ⟨⟨_, rfl⟩, ?_⟩ | refine ⟨Nat.le_of_ble_eq_true rfl, ?_⟩)
      obtain ⟨tn, rfl⟩ : ∃ tn : Nat, t = (tn : Int) := ⟨t.toNat, by omega⟩
      refine ⟨_, rng_nat (n := tn) (by omega), fun j ε => ∃ (ms : List D) (d : D) (s4 : Slo), ε = [.mls ms, .dat (.tup ds), .dat (.int (i : Int)), .dat d, s4, s5, s6] ∧ Vd (11 + j) (12 + 2 * j) d ∧ Pot (200 + 50 * (i : Nat) + 9 + 8 * (j : Nat)) ms, ?_, ?_, ?_⟩
      · exact ⟨m5, d, _, rfl, vd, p5.mono (by omega)⟩
      · rintro j y ε hy ⟨ms, d, s4, rfl, vd, p6⟩
        obtain ⟨rfl, hj⟩ := rng_at hy
        refine ⟨_, rfl, dn_set (ok_if (ok_and ?_))⟩
        repeat (first | with_reducible refine ok_op ?_ | with_reducible refine ok_un ?_ | with_reducible refine ok_cb ?_ | with_reducible refine ok_cons ?_ | with_reducible refine ok_nil ?_ | with_reducible refine ok_giv ?_ | with_reducible refine ok_lst ?_ | with_reducible refine ok_tup ?_ | with_reducible refine ok_dic ?_ | with_reducible refine ok_bool ?_ | with_reducible refine ok_not ?_ | with_reducible refine ok_notV ?_ | with_reducible refine ok_sl ?_ | with_reducible refine ok_part ?_ | with_reducible refine ok_join ?_ | with_reducible refine ok_it ?_ | with_reducible refine ok_itA ?_ | with_reducible refine ok_call0 ?_ | with_reducible refine ok_callN ?_ | with_reducible refine ok_chain ?_ | ((with_reducible apply ok_var); rfl) | ((with_reducible apply ok_varL); rfl) | ((with_reducible apply ok_ixN); rfl) | ((with_reducible apply ok_ixM); rfl) | ((with_reducible apply ok_lenN); rfl) | ((with_reducible apply ok_lenM); rfl) | ((with_reducible apply ok_callY); rfl) | with_reducible refine dn_set ?_ | with_reducible refine dn_ret ?_ | with_reducible refine dn_retN ?_ | with_reducible refine dn_new ?_ | with_reducible refine dn_parN ?_ | with_reducible refine dn_par ?_ | with_reducible refine dn_pair ?_ | with_reducible refine dn_raise ?_ | ((with_reducible apply dn_app); rfl) | with_reducible refine dn_item ?_ | with_reducible refine sq_set ?_ | with_reducible refine sq_pair ?_ | with_reducible refine sq_par ?_ | with_reducible refine sq_parN ?_ | with_reducible refine sq_new ?_ | with_reducible refine sq_item ?_ | ((with_reducible apply sq_app); rfl) | refine ⟨_, _, _, rfl, rfl, rfl, ?_⟩ | refine ⟨_, rfl, ?_⟩ | refine ⟨⟨_, rfl⟩, ?_⟩ | refine ⟨Nat.le_of_ble_eq_true rfl, ?_⟩)
        refine ⟨_, is_ty vd.1, _, rfl, fun ht => ?_, fun _ => ⟨fun z => (nomatch z), fun _ => ok_var rfl (.inl ⟨rfl, ms, d, _, rfl, vd.mono (by omega) (by omega), p6.mono (by omega)⟩)⟩⟩
        cases d <;> first | (cases ht; done) | skip
        rename_i es
        have vl := vd.2 es rfl
        repeat (first | with_reducible refine ok_op ?_ | with_reducible refine ok_un ?_ | with_reducible refine ok_cb ?_ | with_reducible refine ok_cons ?_ | with_reducible refine ok_nil ?_ | with_reducible refine ok_giv ?_ | with_reducible refine ok_lst ?_ | with_reducible refine ok_tup ?_ | with_reducible refine ok_dic ?_ | with_reducible refine ok_bool ?_ | with_reducible refine ok_not ?_ | with_reducible refine ok_notV ?_ | with_reducible refine ok_sl ?_ | with_reducible refine ok_part ?_ | with_reducible refine ok_join ?_ | with_reducible refine ok_it ?_ | with_reducible refine ok_itA ?_ | with_reducible refine ok_call0 ?_ | with_reducible refine ok_callN ?_ | with_reducible refine ok_chain ?_ | ((with_reducible apply ok_var); rfl) | ((with_reducible apply ok_varL); rfl) | ((with_reducible apply ok_ixN); rfl) | ((with_reducible apply ok_ixM); rfl) | ((with_reducible apply ok_lenN); rfl) | ((with_reducible apply ok_lenM); rfl) | ((with_reducible apply ok_callY); rfl) | with_reducible refine dn_set ?_ | with_reducible refine dn_ret ?_ | with_reducible refine dn_retN ?_ | with_reducible refine dn_new ?_ | with_reducible refine dn_parN ?_ | with_reducible refine dn_par ?_ | with_reducible refine dn_pair ?_ | with_reducible refine dn_raise ?_ | ((with_reducible apply dn_app); rfl) | with_reducible refine dn_item ?_ | with_reducible refine sq_set ?_ | with_reducible refine sq_pair ?_ | with_reducible refine sq_par ?_ | with_reducible refine sq_parN ?_ | with_reducible refine sq_new ?_ | with_reducible refine sq_item ?_ | ((with_reducible apply sq_app); rfl) | refine ⟨_, _, _, rfl, rfl, rfl, ?_⟩ | refine ⟨_, rfl, ?_⟩ | refine ⟨⟨_, rfl⟩, ?_⟩ | refine ⟨Nat.le_of_ble_eq_true rfl, ?_⟩)
        refine ⟨fun hb => ?_, fun _ => ok_var rfl (.inl ⟨rfl, ms, .tup es, _, rfl, vd.mono (by omega) (by omega), p6.mono (by omega)⟩)⟩
        repeat (first | with_reducible refine ok_op ?_ | with_reducible refine ok_un ?_ | with_reducible refine ok_cb ?_ | with_reducible refine ok_cons ?_ | with_reducible refine ok_nil ?_ | with_reducible refine ok_giv ?_ | with_reducible refine ok_lst ?_ | with_reducible refine ok_tup ?_ | with_reducible refine ok_dic ?_ | with_reducible refine ok_bool ?_ | with_reducible refine ok_not ?_ | with_reducible refine ok_notV ?_ | with_reducible refine ok_sl ?_ | with_reducible refine ok_part ?_ | with_reducible refine ok_join ?_ | with_reducible refine ok_it ?_ | with_reducible refine ok_itA ?_ | with_reducible refine ok_call0 ?_ | with_reducible refine ok_callN ?_ | with_reducible refine ok_chain ?_ | ((with_reducible apply ok_var); rfl) | ((with_reducible apply ok_varL); rfl) | ((with_reducible apply ok_ixN); rfl) | ((with_reducible apply ok_ixM); rfl) | ((with_reducible apply ok_lenN); rfl) | ((with_reducible apply ok_lenM); rfl) | ((with_reducible apply ok_callY); rfl) | with_reducible refine dn_set ?_ | with_reducible refine dn_ret ?_ | with_reducible refine dn_retN ?_ | with_reducible refine dn_new ?_ | with_reducible refine dn_parN ?_ | with_reducible refine dn_par ?_ | with_reducible refine dn_pair ?_ | with_reducible refine dn_raise ?_ | ((with_reducible apply dn_app); rfl) | with_reducible refine dn_item ?_ | with_reducible refine sq_set ?_ | with_reducible refine sq_pair ?_ | with_reducible refine sq_par ?_ | with_reducible refine sq_parN ?_ | with_reducible refine sq_new ?_ | with_reducible refine sq_item ?_ | ((with_reducible apply sq_app); rfl) | refine ⟨_, _, _, rfl, rfl, rfl, ?_⟩ | refine ⟨_, rfl, ?_⟩ | refine ⟨⟨_, rfl⟩, ?_⟩ | refine ⟨Nat.le_of_ble_eq_true rfl, ?_⟩)
        have pos : 0 < es.length := by
          cases es with
          | nil => cases hb
          | cons => simp
        obtain ⟨d', m7, e7, vd', p7⟩ := bent_ok (A := A) p6 (by omega) vl (by omega) (by omega) (by omega) pos
        exact ⟨_, _, e7, .inl ⟨rfl, m7, d', _, rfl, vd'.mono (by omega) (by omega), p7.mono (by omega)⟩⟩
      · rintro ε ⟨ms, d, s4, rfl, vd, p6⟩
        rw [rng_len] at vd p6
        refine ⟨rfl, dn_if ?_⟩
        repeat (first | with_reducible refine ok_op ?_ | with_reducible refine ok_un ?_ | with_reducible refine ok_cb ?_ | with_reducible refine ok_cons ?_ | with_reducible refine ok_nil ?_ | with_reducible refine ok_giv ?_ | with_reducible refine ok_lst ?_ | with_reducible refine ok_tup ?_ | with_reducible refine ok_dic ?_ | with_reducible refine ok_bool ?_ | with_reducible refine ok_not ?_ | with_reducible refine ok_notV ?_ | with_reducible refine ok_sl ?_ | with_reducible refine ok_part ?_ | with_reducible refine ok_join ?_ | with_reducible refine ok_it ?_ | with_reducible refine ok_itA ?_ | with_reducible refine ok_call0 ?_ | with_reducible refine ok_callN ?_ | with_reducible refine ok_chain ?_ | ((with_reducible apply ok_var); rfl) | ((with_reducible apply ok_varL); rfl) | ((with_reducible apply ok_ixN); rfl) | ((with_reducible apply ok_ixM); rfl) | ((with_reducible apply ok_lenN); rfl) | ((with_reducible apply ok_lenM); rfl) | ((with_reducible apply ok_callY); rfl) | with_reducible refine dn_set ?_ | with_reducible refine dn_ret ?_ | with_reducible refine dn_retN ?_ | with_reducible refine dn_new ?_ | with_reducible refine dn_parN ?_ | with_reducible refine dn_par ?_ | with_reducible refine dn_pair ?_ | with_reducible refine dn_raise ?_ | ((with_reducible apply dn_app); rfl) | with_reducible refine dn_item ?_ | with_reducible refine sq_set ?_ | with_reducible refine sq_pair ?_ | with_reducible refine sq_par ?_ | with_reducible refine sq_parN ?_ | with_reducible refine sq_new ?_ | with_reducible refine sq_item ?_ | ((with_reducible apply sq_app); rfl) | refine ⟨_, _, _, rfl, rfl, rfl, ?_⟩ | refine ⟨_, rfl, ?_⟩ | refine ⟨⟨_, rfl⟩, ?_⟩ | refine ⟨Nat.le_of_ble_eq_true rfl, ?_⟩)
        refine ⟨_, judged_ok g vd.1, _, rfl, fun z => (nomatch z), fun _ => dn_nx (.inl ⟨rfl, ms, _, _, _, _, _, rfl, p6.mono (by omega)⟩)⟩
    · rintro ε ⟨ms, s2, s3, s4, s5, s6, rfl, p3⟩
      rw [rng_len] at p3
      refine ⟨rfl, ?_⟩
      repeat (first | with_reducible refine ok_op ?_ | with_reducible refine ok_un ?_ | with_reducible refine ok_cb ?_ | with_reducible refine ok_cons ?_ | with_reducible refine ok_nil ?_ | with_reducible refine ok_giv ?_ | with_reducible refine ok_lst ?_ | with_reducible refine ok_tup ?_ | with_reducible refine ok_dic ?_ | with_reducible refine ok_bool ?_ | with_reducible refine ok_not ?_ | with_reducible refine ok_notV ?_ | with_reducible refine ok_sl ?_ | with_reducible refine ok_part ?_ | with_reducible refine ok_join ?_ | with_reducible refine ok_it ?_ | with_reducible refine ok_itA ?_ | with_reducible refine ok_call0 ?_ | with_reducible refine ok_callN ?_ | with_reducible refine ok_chain ?_ | ((with_reducible apply ok_var); rfl) | ((with_reducible apply ok_varL); rfl) | ((with_reducible apply ok_ixN); rfl) | ((with_reducible apply ok_ixM); rfl) | ((with_reducible apply ok_lenN); rfl) | ((with_reducible apply ok_lenM); rfl) | ((with_reducible apply ok_callY); rfl) | with_reducible refine dn_set ?_ | with_reducible refine dn_ret ?_ | with_reducible refine dn_retN ?_ | with_reducible refine dn_new ?_ | with_reducible refine dn_parN ?_ | with_reducible refine dn_par ?_ | with_reducible refine dn_pair ?_ | with_reducible refine dn_raise ?_ | ((with_reducible apply dn_app); rfl) | with_reducible refine dn_item ?_ | with_reducible refine sq_set ?_ | with_reducible refine sq_pair ?_ | with_reducible refine sq_par ?_ | with_reducible refine sq_parN ?_ | with_reducible refine sq_new ?_ | with_reducible refine sq_item ?_ | ((with_reducible apply sq_app); rfl) | refine ⟨_, _, _, rfl, rfl, rfl, ?_⟩ | refine ⟨_, rfl, ?_⟩ | refine ⟨⟨_, rfl⟩, ?_⟩ | refine ⟨Nat.le_of_ble_eq_true rfl, ?_⟩)
      obtain ⟨_, m5, e5, ⟨t, rfl, t0, t1⟩, p5⟩ := take_ok (A := A) (u := 10) p3 (by decide) (by decide) (by decide)
      refine ⟨_, _, e5, ?_⟩
      repeat (first | with_reducible refine ok_op ?_ | with_reducible refine ok_un ?_ | with_reducible refine ok_cb ?_ | with_reducible refine ok_cons ?_ | with_reducible refine ok_nil ?_ | with_reducible refine ok_giv ?_ | with_reducible refine ok_lst ?_ | with_reducible refine ok_tup ?_ | with_reducible refine ok_dic ?_ | with_reducible refine ok_bool ?_ | with_reducible refine ok_not ?_ | with_reducible refine ok_notV ?_ | with_reducible refine ok_sl ?_ | with_reducible refine ok_part ?_ | with_reducible refine ok_join ?_ | with_reducible refine ok_it ?_ | with_reducible refine ok_itA ?_ | with_reducible refine ok_call0 ?_ | with_reducible refine ok_callN ?_ | with_reducible refine ok_chain ?_ | ((with_reducible apply ok_var); rfl) | ((with_reducible apply ok_varL); rfl) | ((with_reducible apply ok_ixN); rfl) | ((with_reducible apply ok_ixM); rfl) | ((with_reducible apply ok_lenN); rfl) | ((with_reducible apply ok_lenM); rfl) | ((with_reducible apply ok_callY); rfl) | with_reducible refine dn_set ?_ | with_reducible refine dn_ret ?_ | with_reducible refine dn_retN ?_ | with_reducible refine dn_new ?_ | with_reducible refine dn_parN ?_ | with_reducible refine dn_par ?_ | with_reducible refine dn_pair ?_ | with_reducible refine dn_raise ?_ | ((with_reducible apply dn_app); rfl) | with_reducible refine dn_item ?_ | with_reducible refine sq_set ?_ | with_reducible refine sq_pair ?_ | with_reducible refine sq_par ?_ | with_reducible refine sq_parN ?_ | with_reducible refine sq_new ?_ | with_reducible refine sq_item ?_ | ((with_reducible apply sq_app); rfl) | refine ⟨_, _, _, rfl, rfl, rfl, ?_⟩ | refine ⟨_, rfl, ?_⟩ | refine ⟨⟨_, rfl⟩, ?_⟩ | refine ⟨Nat.le_of_ble_eq_true rfl, ?_⟩)
      have w0 : 0 ≤ 1 + t := by omega
      obtain ⟨l1, g1, h1, q1⟩ := mul_t (x := .str (repS "o" (1 + t))) (j := 10) (by decide) (by decide)
      obtain ⟨l2, g2, h2, q2⟩ := mul_t (x := .str (repS "o" (1 + t))) (j := 11) (by decide) (by decide)
      obtain ⟨l3, g3, h3, q3⟩ := mul_t (x := .str (repS "o" 10)) (j := 1 + t) (by omega) (by omega)
      obtain ⟨l4, g4, h4, q4⟩ := mul_t (x := .str (repS "o" 11)) (j := 1 + t) (by omega) (by omega)
      refine ⟨_, mul_s w0 (by omega) (by decide), ok_nil ⟨by simp, ok_giv ⟨_, g1, ?_⟩⟩⟩
      refine ok_cons (ok_op (ok_tup (ok_cons (ok_op (ok_giv (ok_var rfl ⟨_, mul_s w0 (by omega) (by decide), ok_nil ⟨by simp, ok_giv ⟨_, g2, ?_⟩⟩⟩))))))
      refine ok_cons (ok_op (ok_tup (ok_cons (ok_op (ok_giv (ok_giv ⟨_, mul_s (by decide) (by decide) (by decide), ok_nil ⟨by simp, ok_var rfl ⟨_, g3, ?_⟩⟩⟩))))))
      refine ok_cons (ok_op (ok_tup (ok_cons (ok_op (ok_giv (ok_giv ⟨_, mul_s (by decide) (by decide) (by decide), ok_nil ⟨by simp, ok_var rfl ⟨_, g4, ?_⟩⟩⟩))))))
      repeat (first | with_reducible refine ok_op ?_ | with_reducible refine ok_un ?_ | with_reducible refine ok_cb ?_ | with_reducible refine ok_cons ?_ | with_reducible refine ok_nil ?_ | with_reducible refine ok_giv ?_ | with_reducible refine ok_lst ?_ | with_reducible refine ok_tup ?_ | with_reducible refine ok_dic ?_ | with_reducible refine ok_bool ?_ | with_reducible refine ok_not ?_ | with_reducible refine ok_notV ?_ | with_reducible refine ok_sl ?_ | with_reducible refine ok_part ?_ | with_reducible refine ok_join ?_ | with_reducible refine ok_it ?_ | with_reducible refine ok_itA ?_ | with_reducible refine ok_call0 ?_ | with_reducible refine ok_callN ?_ | with_reducible refine ok_chain ?_ | ((with_reducible apply ok_var); rfl) | ((with_reducible apply ok_varL); rfl) | ((with_reducible apply ok_ixN); rfl) | ((with_reducible apply ok_ixM); rfl) | ((with_reducible apply ok_lenN); rfl) | ((with_reducible apply ok_lenM); rfl) | ((with_reducible apply ok_callY); rfl) | with_reducible refine dn_set ?_ | with_reducible refine dn_ret ?_ | with_reducible refine dn_retN ?_ | with_reducible refine dn_new ?_ | with_reducible refine dn_parN ?_ | with_reducible refine dn_par ?_ | with_reducible refine dn_pair ?_ | with_reducible refine dn_raise ?_ | ((with_reducible apply dn_app); rfl) | with_reducible refine dn_item ?_ | with_reducible refine sq_set ?_ | with_reducible refine sq_pair ?_ | with_reducible refine sq_par ?_ | with_reducible refine sq_parN ?_ | with_reducible refine sq_new ?_ | with_reducible refine sq_item ?_ | ((with_reducible apply sq_app); rfl) | refine ⟨_, _, _, rfl, rfl, rfl, ?_⟩ | refine ⟨_, rfl, ?_⟩ | refine ⟨⟨_, rfl⟩, ?_⟩ | refine ⟨Nat.le_of_ble_eq_true rfl, ?_⟩)
      obtain ⟨o1, m6, e6, ⟨b1, _⟩, p6⟩ := odd_ok (A := A) p5 (by decide)
      have sx : ∀ d ∈ ds, ∃ x : Str, d = .str x := fun d hd => by obtain ⟨x, e, _⟩ := dr d hd; exact ⟨x, e⟩
      obtain ⟨xs, ex⟩ := str_map sx
      have xr : ∀ x ∈ xs, x.length ≤ 10 ∧ ∀ c ∈ x.cps.toList, c < 1114112 := fun x hx => by
        obtain ⟨y, e, a, b⟩ := dr (.str x) (by rw [ex]; exact List.mem_map.mpr ⟨x, hx, rfl⟩)
        cases e
        exact ⟨by omega, b⟩
      have xn : xs.length ≤ 10 := by have : ds.length = xs.length := by rw [ex, List.length_map]
                                     omega
      refine ok_lc (fun _ => .bl true) ?_
      repeat (first | with_reducible refine ok_op ?_ | with_reducible refine ok_un ?_ | with_reducible refine ok_cb ?_ | with_reducible refine ok_cons ?_ | with_reducible refine ok_nil ?_ | with_reducible refine ok_giv ?_ | with_reducible refine ok_lst ?_ | with_reducible refine ok_tup ?_ | with_reducible refine ok_dic ?_ | with_reducible refine ok_bool ?_ | with_reducible refine ok_not ?_ | with_reducible refine ok_notV ?_ | with_reducible refine ok_sl ?_ | with_reducible refine ok_part ?_ | with_reducible refine ok_join ?_ | with_reducible refine ok_it ?_ | with_reducible refine ok_itA ?_ | with_reducible refine ok_call0 ?_ | with_reducible refine ok_callN ?_ | with_reducible refine ok_chain ?_ | ((with_reducible apply ok_var); rfl) | ((with_reducible apply ok_varL); rfl) | ((with_reducible apply ok_ixN); rfl) | ((with_reducible apply ok_ixM); rfl) | ((with_reducible apply ok_lenN); rfl) | ((with_reducible apply ok_lenM); rfl) | ((with_reducible apply ok_callY); rfl) | with_reducible refine dn_set ?_ | with_reducible refine dn_ret ?_ | with_reducible refine dn_retN ?_ | with_reducible refine dn_new ?_ | with_reducible refine dn_parN ?_ | with_reducible refine dn_par ?_ | with_reducible refine dn_pair ?_ | with_reducible refine dn_raise ?_ | ((with_reducible apply dn_app); rfl) | with_reducible refine dn_item ?_ | with_reducible refine sq_set ?_ | with_reducible refine sq_pair ?_ | with_reducible refine sq_par ?_ | with_reducible refine sq_parN ?_ | with_reducible refine sq_new ?_ | with_reducible refine sq_item ?_ | ((with_reducible apply sq_app); rfl) | refine ⟨_, _, _, rfl, rfl, rfl, ?_⟩ | refine ⟨_, rfl, ?_⟩ | refine ⟨⟨_, rfl⟩, ?_⟩ | refine ⟨Nat.le_of_ble_eq_true rfl, ?_⟩)
      refine ⟨_, _, e6, ?_⟩
      repeat (first | with_reducible refine ok_op ?_ | with_reducible refine ok_un ?_ | with_reducible refine ok_cb ?_ | with_reducible refine ok_cons ?_ | with_reducible refine ok_nil ?_ | with_reducible refine ok_giv ?_ | with_reducible refine ok_lst ?_ | with_reducible refine ok_tup ?_ | with_reducible refine ok_dic ?_ | with_reducible refine ok_bool ?_ | with_reducible refine ok_not ?_ | with_reducible refine ok_notV ?_ | with_reducible refine ok_sl ?_ | with_reducible refine ok_part ?_ | with_reducible refine ok_join ?_ | with_reducible refine ok_it ?_ | with_reducible refine ok_itA ?_ | with_reducible refine ok_call0 ?_ | with_reducible refine ok_callN ?_ | with_reducible refine ok_chain ?_ | ((with_reducible apply ok_var); rfl) | ((with_reducible apply ok_varL); rfl) | ((with_reducible apply ok_ixN); rfl) | ((with_reducible apply ok_ixM); rfl) | ((with_reducible apply ok_lenN); rfl) | ((with_reducible apply ok_lenM); rfl) | ((with_reducible apply ok_callY); rfl) | with_reducible refine dn_set ?_ | with_reducible refine dn_ret ?_ | with_reducible refine dn_retN ?_ | with_reducible refine dn_new ?_ | with_reducible refine dn_parN ?_ | with_reducible refine dn_par ?_ | with_reducible refine dn_pair ?_ | with_reducible refine dn_raise ?_ | ((with_reducible apply dn_app); rfl) | with_reducible refine dn_item ?_ | with_reducible refine sq_set ?_ | with_reducible refine sq_pair ?_ | with_reducible refine sq_par ?_ | with_reducible refine sq_parN ?_ | with_reducible refine sq_new ?_ | with_reducible refine sq_item ?_ | ((with_reducible apply sq_app); rfl) | refine ⟨_, _, _, rfl, rfl, rfl, ?_⟩ | refine ⟨_, rfl, ?_⟩ | refine ⟨⟨_, rfl⟩, ?_⟩ | refine ⟨Nat.le_of_ble_eq_true rfl, ?_⟩)
      refine ⟨_, join_tup ex (fun x hx => (xr x hx).1) xn, ?_⟩
      obtain ⟨c, hc, cm⟩ := atT (l := ds) (x := 0) (by decide) (by omega)
      repeat (first | with_reducible refine ok_op ?_ | with_reducible refine ok_un ?_ | with_reducible refine ok_cb ?_ | with_reducible refine ok_cons ?_ | with_reducible refine ok_nil ?_ | with_reducible refine ok_giv ?_ | with_reducible refine ok_lst ?_ | with_reducible refine ok_tup ?_ | with_reducible refine ok_dic ?_ | with_reducible refine ok_bool ?_ | with_reducible refine ok_not ?_ | with_reducible refine ok_notV ?_ | with_reducible refine ok_sl ?_ | with_reducible refine ok_part ?_ | with_reducible refine ok_join ?_ | with_reducible refine ok_it ?_ | with_reducible refine ok_itA ?_ | with_reducible refine ok_call0 ?_ | with_reducible refine ok_callN ?_ | with_reducible refine ok_chain ?_ | ((with_reducible apply ok_var); rfl) | ((with_reducible apply ok_varL); rfl) | ((with_reducible apply ok_ixN); rfl) | ((with_reducible apply ok_ixM); rfl) | ((with_reducible apply ok_lenN); rfl) | ((with_reducible apply ok_lenM); rfl) | ((with_reducible apply ok_callY); rfl) | with_reducible refine dn_set ?_ | with_reducible refine dn_ret ?_ | with_reducible refine dn_retN ?_ | with_reducible refine dn_new ?_ | with_reducible refine dn_parN ?_ | with_reducible refine dn_par ?_ | with_reducible refine dn_pair ?_ | with_reducible refine dn_raise ?_ | ((with_reducible apply dn_app); rfl) | with_reducible refine dn_item ?_ | with_reducible refine sq_set ?_ | with_reducible refine sq_pair ?_ | with_reducible refine sq_par ?_ | with_reducible refine sq_parN ?_ | with_reducible refine sq_new ?_ | with_reducible refine sq_item ?_ | ((with_reducible apply sq_app); rfl) | refine ⟨_, _, _, rfl, rfl, rfl, ?_⟩ | refine ⟨_, rfl, ?_⟩ | refine ⟨⟨_, rfl⟩, ?_⟩ | refine ⟨Nat.le_of_ble_eq_true rfl, ?_⟩)
      refine ⟨c, hc, ?_⟩
      repeat (first | with_reducible refine ok_op ?_ | with_reducible refine ok_un ?_ | with_reducible refine ok_cb ?_ | with_reducible refine ok_cons ?_ | with_reducible refine ok_nil ?_ | with_reducible refine ok_giv ?_ | with_reducible refine ok_lst ?_ | with_reducible refine ok_tup ?_ | with_reducible refine ok_dic ?_ | with_reducible refine ok_bool ?_ | with_reducible refine ok_not ?_ | with_reducible refine ok_notV ?_ | with_reducible refine ok_sl ?_ | with_reducible refine ok_part ?_ | with_reducible refine ok_join ?_ | with_reducible refine ok_it ?_ | with_reducible refine ok_itA ?_ | with_reducible refine ok_call0 ?_ | with_reducible refine ok_callN ?_ | with_reducible refine ok_chain ?_ | ((with_reducible apply ok_var); rfl) | ((with_reducible apply ok_varL); rfl) | ((with_reducible apply ok_ixN); rfl) | ((with_reducible apply ok_ixM); rfl) | ((with_reducible apply ok_lenN); rfl) | ((with_reducible apply ok_lenM); rfl) | ((with_reducible apply ok_callY); rfl) | with_reducible refine dn_set ?_ | with_reducible refine dn_ret ?_ | with_reducible refine dn_retN ?_ | with_reducible refine dn_new ?_ | with_reducible refine dn_parN ?_ | with_reducible refine dn_par ?_ | with_reducible refine dn_pair ?_ | with_reducible refine dn_raise ?_ | ((with_reducible apply dn_app); rfl) | with_reducible refine dn_item ?_ | with_reducible refine sq_set ?_ | with_reducible refine sq_pair ?_ | with_reducible refine sq_par ?_ | with_reducible refine sq_parN ?_ | with_reducible refine sq_new ?_ | with_reducible refine sq_item ?_ | ((with_reducible apply sq_app); rfl) | refine ⟨_, _, _, rfl, rfl, rfl, ?_⟩ | refine ⟨_, rfl, ?_⟩ | refine ⟨⟨_, rfl⟩, ?_⟩ | refine ⟨Nat.le_of_ble_eq_true rfl, ?_⟩)
      have rl : ∀ j : Int, 0 ≤ j → j ≤ 11 → (repS "o" j).length ≤ 30 := fun j h0 h1 => by rw [rep_len, o_len]; omega
      refine ⟨fun d hd => ⟨_, rfl, ?_⟩, ?_⟩
      · have bd : Bd 3 d := by
          simp only [List.cons_append, List.nil_append, List.mem_cons, List.not_mem_nil, or_false] at hd
          rcases hd with rfl | rfl | rfl | rfl | rfl | rfl | rfl | rfl | rfl | rfl
          · exact bd_copies (rl _ w0 (by omega)) (rep_chr o_chr) h1 q1
          · exact bd_copies (rl _ w0 (by omega)) (rep_chr o_chr) h2 q2
          · exact bd_copies (rl _ (by decide) (by decide)) (rep_chr o_chr) h3 q3
          · exact bd_copies (rl _ (by decide) (by decide)) (rep_chr o_chr) h4 q4
          · exact .tup _ _ (by decide) fun d hd => by rw [List.mem_singleton.mp hd]; exact .str _ _ ⟨by decide, by decide⟩
          · exact .tup _ _ (by decide) fun d hd => nomatch hd
          · exact b1.mono (by decide)
          · exact .lst _ _ (by omega) fun d hd => (v0.2 d hd).1
          · refine .big 0 _ ?_ ?_
            · rw [len_list]; exact join_len (fun x hx => (xr x hx).1) xn
            · intro c hc
              rw [join_list] at hc
              obtain ⟨l, hl, hm⟩ := List.mem_flatten.mp hc
              obtain ⟨x, hx, rfl⟩ := List.mem_map.mp hl
              exact (xr x hx).2 c hm
          · exact ((v0.2 _ cm).1).mono (by decide)
        repeat (first | with_reducible refine ok_op ?_ | with_reducible refine ok_un ?_ | with_reducible refine ok_cb ?_ | with_reducible refine ok_cons ?_ | with_reducible refine ok_nil ?_ | with_reducible refine ok_giv ?_ | with_reducible refine ok_lst ?_ | with_reducible refine ok_tup ?_ | with_reducible refine ok_dic ?_ | with_reducible refine ok_bool ?_ | with_reducible refine ok_not ?_ | with_reducible refine ok_notV ?_ | with_reducible refine ok_sl ?_ | with_reducible refine ok_part ?_ | with_reducible refine ok_join ?_ | with_reducible refine ok_it ?_ | with_reducible refine ok_itA ?_ | with_reducible refine ok_call0 ?_ | with_reducible refine ok_callN ?_ | with_reducible refine ok_chain ?_ | ((with_reducible apply ok_var); rfl) | ((with_reducible apply ok_varL); rfl) | ((with_reducible apply ok_ixN); rfl) | ((with_reducible apply ok_ixM); rfl) | ((with_reducible apply ok_lenN); rfl) | ((with_reducible apply ok_lenM); rfl) | ((with_reducible apply ok_callY); rfl) | with_reducible refine dn_set ?_ | with_reducible refine dn_ret ?_ | with_reducible refine dn_retN ?_ | with_reducible refine dn_new ?_ | with_reducible refine dn_parN ?_ | with_reducible refine dn_par ?_ | with_reducible refine dn_pair ?_ | with_reducible refine dn_raise ?_ | ((with_reducible apply dn_app); rfl) | with_reducible refine dn_item ?_ | with_reducible refine sq_set ?_ | with_reducible refine sq_pair ?_ | with_reducible refine sq_par ?_ | with_reducible refine sq_parN ?_ | with_reducible refine sq_new ?_ | with_reducible refine sq_item ?_ | ((with_reducible apply sq_app); rfl) | refine ⟨_, _, _, rfl, rfl, rfl, ?_⟩ | refine ⟨_, rfl, ?_⟩ | refine ⟨⟨_, rfl⟩, ?_⟩ | refine ⟨Nat.le_of_ble_eq_true rfl, ?_⟩)
        exact ⟨_, judged_ok g bd, rfl, rfl⟩
      · repeat (first | with_reducible refine ok_op ?_ | with_reducible refine ok_un ?_ | with_reducible refine ok_cb ?_ | with_reducible refine ok_cons ?_ | with_reducible refine ok_nil ?_ | with_reducible refine ok_giv ?_ | with_reducible refine ok_lst ?_ | with_reducible refine ok_tup ?_ | with_reducible refine ok_dic ?_ | with_reducible refine ok_bool ?_ | with_reducible refine ok_not ?_ | with_reducible refine ok_notV ?_ | with_reducible refine ok_sl ?_ | with_reducible refine ok_part ?_ | with_reducible refine ok_join ?_ | with_reducible refine ok_it ?_ | with_reducible refine ok_itA ?_ | with_reducible refine ok_call0 ?_ | with_reducible refine ok_callN ?_ | with_reducible refine ok_chain ?_ | ((with_reducible apply ok_var); rfl) | ((with_reducible apply ok_varL); rfl) | ((with_reducible apply ok_ixN); rfl) | ((with_reducible apply ok_ixM); rfl) | ((with_reducible apply ok_lenN); rfl) | ((with_reducible apply ok_lenM); rfl) | ((with_reducible apply ok_callY); rfl) | with_reducible refine dn_set ?_ | with_reducible refine dn_ret ?_ | with_reducible refine dn_retN ?_ | with_reducible refine dn_new ?_ | with_reducible refine dn_parN ?_ | with_reducible refine dn_par ?_ | with_reducible refine dn_pair ?_ | with_reducible refine dn_raise ?_ | ((with_reducible apply dn_app); rfl) | with_reducible refine dn_item ?_ | with_reducible refine sq_set ?_ | with_reducible refine sq_pair ?_ | with_reducible refine sq_par ?_ | with_reducible refine sq_parN ?_ | with_reducible refine sq_new ?_ | with_reducible refine sq_item ?_ | ((with_reducible apply sq_app); rfl) | refine ⟨_, _, _, rfl, rfl, rfl, ?_⟩ | refine ⟨_, rfl, ?_⟩ | refine ⟨⟨_, rfl⟩, ?_⟩ | refine ⟨Nat.le_of_ble_eq_true rfl, ?_⟩)
        have e9 : ∀ l : List D, allF [.lst (l.map fun _ => .bl true)] = some (.bl true) := fun l => by
          have := all_bl (g := fun _ => true) (ds := l)
          rw [this]
          simp
        first | rfl | simp | exact ⟨_, e9 _, _, rfl, m6, rfl, rfl⟩
  obtain ⟨d, ms', e, rfl⟩ := key
  exact ⟨ms', e⟩
theorem pot_ok {A : Adr} {ns : List Int} {i : Nat} (hi : i ≤ 10) : ∃ l, m__law_pot A [.scr (ns.map D.int), .int i] = some l ∧ Pot 0 l := by
  unfold m__law_pot
  refine fnZ rfl (P := fun l => Pot 0 l) ?_
  refine sq_set (Ok.mono (P := fun d ε => (∃ c : Int, d = .int c) ∧ ε = startE 5 [.scr (ns.map D.int), .int i]) (ok_if ?_) ?_)
  · repeat (first | with_reducible refine ok_op ?_ | with_reducible refine ok_un ?_ | with_reducible refine ok_cb ?_ | with_reducible refine ok_cons ?_ | with_reducible refine ok_nil ?_ | with_reducible refine ok_giv ?_ | with_reducible refine ok_lst ?_ | with_reducible refine ok_tup ?_ | with_reducible refine ok_dic ?_ | with_reducible refine ok_bool ?_ | with_reducible refine ok_not ?_ | with_reducible refine ok_notV ?_ | with_reducible refine ok_sl ?_ | with_reducible refine ok_part ?_ | with_reducible refine ok_join ?_ | with_reducible refine ok_it ?_ | with_reducible refine ok_itA ?_ | with_reducible refine ok_call0 ?_ | with_reducible refine ok_callN ?_ | with_reducible refine ok_chain ?_ | ((with_reducible apply ok_var); rfl) | ((with_reducible apply ok_varL); rfl) | ((with_reducible apply ok_ixN); rfl) | ((with_reducible apply ok_ixM); rfl) | ((with_reducible apply ok_lenN); rfl) | ((with_reducible apply ok_lenM); rfl) | ((with_reducible apply ok_callY); rfl) | with_reducible refine dn_set ?_ | with_reducible refine dn_ret ?_ | with_reducible refine dn_retN ?_ | with_reducible refine dn_new ?_ | with_reducible refine dn_parN ?_ | with_reducible refine dn_par ?_ | with_reducible refine dn_pair ?_ | with_reducible refine dn_raise ?_ | ((with_reducible apply dn_app); rfl) | with_reducible refine dn_item ?_ | with_reducible refine sq_set ?_ | with_reducible refine sq_pair ?_ | with_reducible refine sq_par ?_ | with_reducible refine sq_parN ?_ | with_reducible refine sq_new ?_ | with_reducible refine sq_item ?_ | ((with_reducible apply sq_app); rfl) | refine ⟨_, _, _, rfl, rfl, rfl, ?_⟩ | refine ⟨_, rfl, ?_⟩ | refine ⟨⟨_, rfl⟩, ?_⟩ | refine ⟨Nat.le_of_ble_eq_true rfl, ?_⟩)
    refine ⟨fun h => ?_, fun _ => ?_⟩
    · have h := of_decide_eq_true h
      rw [List.length_map] at h
      repeat (first | with_reducible refine ok_op ?_ | with_reducible refine ok_un ?_ | with_reducible refine ok_cb ?_ | with_reducible refine ok_cons ?_ | with_reducible refine ok_nil ?_ | with_reducible refine ok_giv ?_ | with_reducible refine ok_lst ?_ | with_reducible refine ok_tup ?_ | with_reducible refine ok_dic ?_ | with_reducible refine ok_bool ?_ | with_reducible refine ok_not ?_ | with_reducible refine ok_notV ?_ | with_reducible refine ok_sl ?_ | with_reducible refine ok_part ?_ | with_reducible refine ok_join ?_ | with_reducible refine ok_it ?_ | with_reducible refine ok_itA ?_ | with_reducible refine ok_call0 ?_ | with_reducible refine ok_callN ?_ | with_reducible refine ok_chain ?_ | ((with_reducible apply ok_var); rfl) | ((with_reducible apply ok_varL); rfl) | ((with_reducible apply ok_ixN); rfl) | ((with_reducible apply ok_ixM); rfl) | ((with_reducible apply ok_lenN); rfl) | ((with_reducible apply ok_lenM); rfl) | ((with_reducible apply ok_callY); rfl) | with_reducible refine dn_set ?_ | with_reducible refine dn_ret ?_ | with_reducible refine dn_retN ?_ | with_reducible refine dn_new ?_ | with_reducible refine dn_parN ?_ | with_reducible refine dn_par ?_ | with_reducible refine dn_pair ?_ | with_reducible refine dn_raise ?_ | ((with_reducible apply dn_app); rfl) | with_reducible refine dn_item ?_ | with_reducible refine sq_set ?_ | with_reducible refine sq_pair ?_ | with_reducible refine sq_par ?_ | with_reducible refine sq_parN ?_ | with_reducible refine sq_new ?_ | with_reducible refine sq_item ?_ | ((with_reducible apply sq_app); rfl) | refine ⟨_, _, _, rfl, rfl, rfl, ?_⟩ | refine ⟨_, rfl, ?_⟩ | refine ⟨⟨_, rfl⟩, ?_⟩ | refine ⟨Nat.le_of_ble_eq_true rfl, ?_⟩)
      have lt : i < ns.length := by omega
      refine ⟨.int ns[i], ?_, ⟨_, rfl⟩, rfl⟩
      show atI (ns.map D.int) (i : Int) = _
      unfold atI ixN
      rw [if_pos (by omega), if_pos (by rw [List.length_map]; omega)]
      show (ns.map D.int)[(i : Int).toNat]? = _
      rw [Int.toNat_natCast, List.getElem?_map, List.getElem?_eq_getElem lt]
      rfl
    · repeat (first | with_reducible refine ok_op ?_ | with_reducible refine ok_un ?_ | with_reducible refine ok_cb ?_ | with_reducible refine ok_cons ?_ | with_reducible refine ok_nil ?_ | with_reducible refine ok_giv ?_ | with_reducible refine ok_lst ?_ | with_reducible refine ok_tup ?_ | with_reducible refine ok_dic ?_ | with_reducible refine ok_bool ?_ | with_reducible refine ok_not ?_ | with_reducible refine ok_notV ?_ | with_reducible refine ok_sl ?_ | with_reducible refine ok_part ?_ | with_reducible refine ok_join ?_ | with_reducible refine ok_it ?_ | with_reducible refine ok_itA ?_ | with_reducible refine ok_call0 ?_ | with_reducible refine ok_callN ?_ | with_reducible refine ok_chain ?_ | ((with_reducible apply ok_var); rfl) | ((with_reducible apply ok_varL); rfl) | ((with_reducible apply ok_ixN); rfl) | ((with_reducible apply ok_ixM); rfl) | ((with_reducible apply ok_lenN); rfl) | ((with_reducible apply ok_lenM); rfl) | ((with_reducible apply ok_callY); rfl) | with_reducible refine dn_set ?_ | with_reducible refine dn_ret ?_ | with_reducible refine dn_retN ?_ | with_reducible refine dn_new ?_ | with_reducible refine dn_parN ?_ | with_reducible refine dn_par ?_ | with_reducible refine dn_pair ?_ | with_reducible refine dn_raise ?_ | ((with_reducible apply dn_app); rfl) | with_reducible refine dn_item ?_ | with_reducible refine sq_set ?_ | with_reducible refine sq_pair ?_ | with_reducible refine sq_par ?_ | with_reducible refine sq_parN ?_ | with_reducible refine sq_new ?_ | with_reducible refine sq_item ?_ | ((with_reducible apply sq_app); rfl) | refine ⟨_, _, _, rfl, rfl, rfl, ?_⟩ | refine ⟨_, rfl, ?_⟩ | refine ⟨⟨_, rfl⟩, ?_⟩ | refine ⟨Nat.le_of_ble_eq_true rfl, ?_⟩)
      rfl
  rintro _ _ ⟨⟨c, rfl⟩, rfl⟩
  repeat (first | with_reducible refine ok_op ?_ | with_reducible refine ok_un ?_ | with_reducible refine ok_cb ?_ | with_reducible refine ok_cons ?_ | with_reducible refine ok_nil ?_ | with_reducible refine ok_giv ?_ | with_reducible refine ok_lst ?_ | with_reducible refine ok_tup ?_ | with_reducible refine ok_dic ?_ | with_reducible refine ok_bool ?_ | with_reducible refine ok_not ?_ | with_reducible refine ok_notV ?_ | with_reducible refine ok_sl ?_ | with_reducible refine ok_part ?_ | with_reducible refine ok_join ?_ | with_reducible refine ok_it ?_ | with_reducible refine ok_itA ?_ | with_reducible refine ok_call0 ?_ | with_reducible refine ok_callN ?_ | with_reducible refine ok_chain ?_ | ((with_reducible apply ok_var); rfl) | ((with_reducible apply ok_varL); rfl) | ((with_reducible apply ok_ixN); rfl) | ((with_reducible apply ok_ixM); rfl) | ((with_reducible apply ok_lenN); rfl) | ((with_reducible apply ok_lenM); rfl) | ((with_reducible apply ok_callY); rfl) | with_reducible refine dn_set ?_ | with_reducible refine dn_ret ?_ | with_reducible refine dn_retN ?_ | with_reducible refine dn_new ?_ | with_reducible refine dn_parN ?_ | with_reducible refine dn_par ?_ | with_reducible refine dn_pair ?_ | with_reducible refine dn_raise ?_ | ((with_reducible apply dn_app); rfl) | with_reducible refine dn_item ?_ | with_reducible refine sq_set ?_ | with_reducible refine sq_pair ?_ | with_reducible refine sq_par ?_ | with_reducible refine sq_parN ?_ | with_reducible refine sq_new ?_ | with_reducible refine sq_item ?_ | ((with_reducible apply sq_app); rfl) | refine ⟨_, _, _, rfl, rfl, rfl, ?_⟩ | refine ⟨_, rfl, ?_⟩ | refine ⟨⟨_, rfl⟩, ?_⟩ | refine ⟨Nat.le_of_ble_eq_true rfl, ?_⟩)
  have b01 : ∀ b : Bool, 0 ≤ (if b = true then (1 : Int) else 0) ∧ (if b = true then (1 : Int) else 0) < 2 ^ 64 := fun b => by cases b <;> decide
  refine ⟨_, mul_ij (b01 _).1 (b01 _).2, ?_⟩
  have own0 : 0 ≤ (if c < 0 then -c else c) % (10 ^ Int.toNat 60) ^ Int.toNat 5 * (if decide (10 ^ Int.toNat 18 ≤ if c < 0 then -c else c) = true then 1 else 0) := Int.mul_nonneg (Int.emod_nonneg _ (by decide)) (b01 _).1
  generalize (if c < 0 then -c else c) % (10 ^ Int.toNat 60) ^ Int.toNat 5 * (if decide (10 ^ Int.toNat 18 ≤ if c < 0 then -c else c) = true then 1 else 0) = own at own0 ⊢
  repeat (first | with_reducible refine ok_op ?_ | with_reducible refine ok_un ?_ | with_reducible refine ok_cb ?_ | with_reducible refine ok_cons ?_ | with_reducible refine ok_nil ?_ | with_reducible refine ok_giv ?_ | with_reducible refine ok_lst ?_ | with_reducible refine ok_tup ?_ | with_reducible refine ok_dic ?_ | with_reducible refine ok_bool ?_ | with_reducible refine ok_not ?_ | with_reducible refine ok_notV ?_ | with_reducible refine ok_sl ?_ | with_reducible refine ok_part ?_ | with_reducible refine ok_join ?_ | with_reducible refine ok_it ?_ | with_reducible refine ok_itA ?_ | with_reducible refine ok_call0 ?_ | with_reducible refine ok_callN ?_ | with_reducible refine ok_chain ?_ | ((with_reducible apply ok_var); rfl) | ((with_reducible apply ok_varL); rfl) | ((with_reducible apply ok_ixN); rfl) | ((with_reducible apply ok_ixM); rfl) | ((with_reducible apply ok_lenN); rfl) | ((with_reducible apply ok_lenM); rfl) | ((with_reducible apply ok_callY); rfl) | with_reducible refine dn_set ?_ | with_reducible refine dn_ret ?_ | with_reducible refine dn_retN ?_ | with_reducible refine dn_new ?_ | with_reducible refine dn_parN ?_ | with_reducible refine dn_par ?_ | with_reducible refine dn_pair ?_ | with_reducible refine dn_raise ?_ | ((with_reducible apply dn_app); rfl) | with_reducible refine dn_item ?_ | with_reducible refine sq_set ?_ | with_reducible refine sq_pair ?_ | with_reducible refine sq_par ?_ | with_reducible refine sq_parN ?_ | with_reducible refine sq_new ?_ | with_reducible refine sq_item ?_ | ((with_reducible apply sq_app); rfl) | refine ⟨_, _, _, rfl, rfl, rfl, ?_⟩ | refine ⟨_, rfl, ?_⟩ | refine ⟨⟨_, rfl⟩, ?_⟩ | refine ⟨Nat.le_of_ble_eq_true rfl, ?_⟩)
  refine ⟨_, mul_ij (by decide) (by decide), ?_⟩
  generalize c % 2305843009213693951 * 68023 = q
  refine ok_op (ok_op (ok_giv (ok_var rfl ⟨_, mul_ii (by decide) (by decide), ok_var rfl ⟨_, mul_ij (by omega) (by omega), ?_⟩⟩)))
  generalize (7103 : Int) * (i : Int) * (i : Int) = r
  repeat (first | with_reducible refine ok_op ?_ | with_reducible refine ok_un ?_ | with_reducible refine ok_cb ?_ | with_reducible refine ok_cons ?_ | with_reducible refine ok_nil ?_ | with_reducible refine ok_giv ?_ | with_reducible refine ok_lst ?_ | with_reducible refine ok_tup ?_ | with_reducible refine ok_dic ?_ | with_reducible refine ok_bool ?_ | with_reducible refine ok_not ?_ | with_reducible refine ok_notV ?_ | with_reducible refine ok_sl ?_ | with_reducible refine ok_part ?_ | with_reducible refine ok_join ?_ | with_reducible refine ok_it ?_ | with_reducible refine ok_itA ?_ | with_reducible refine ok_call0 ?_ | with_reducible refine ok_callN ?_ | with_reducible refine ok_chain ?_ | ((with_reducible apply ok_var); rfl) | ((with_reducible apply ok_varL); rfl) | ((with_reducible apply ok_ixN); rfl) | ((with_reducible apply ok_ixM); rfl) | ((with_reducible apply ok_lenN); rfl) | ((with_reducible apply ok_lenM); rfl) | ((with_reducible apply ok_callY); rfl) | with_reducible refine dn_set ?_ | with_reducible refine dn_ret ?_ | with_reducible refine dn_retN ?_ | with_reducible refine dn_new ?_ | with_reducible refine dn_parN ?_ | with_reducible refine dn_par ?_ | with_reducible refine dn_pair ?_ | with_reducible refine dn_raise ?_ | ((with_reducible apply dn_app); rfl) | with_reducible refine dn_item ?_ | with_reducible refine sq_set ?_ | with_reducible refine sq_pair ?_ | with_reducible refine sq_par ?_ | with_reducible refine sq_parN ?_ | with_reducible refine sq_new ?_ | with_reducible refine sq_item ?_ | ((with_reducible apply sq_app); rfl) | refine ⟨_, _, _, rfl, rfl, rfl, ?_⟩ | refine ⟨_, rfl, ?_⟩ | refine ⟨⟨_, rfl⟩, ?_⟩ | refine ⟨Nat.le_of_ble_eq_true rfl, ?_⟩)
  exact ⟨_, _, _, rfl, own0, Int.emod_nonneg _ (by decide), Int.lt_trans (Int.emod_lt_of_pos _ (by decide)) (by decide), Int.le_refl _, Int.le_refl _⟩
theorem math {A : Adr} (g : Good A) (ns : List Int) (hn : ns.length ≤ 63) : m_law A [.scr (ns.map D.int)] = some (.ok (.bl true)) := by
  have key : ∃ r, m_law A [.scr (ns.map D.int)] = some (.ok r) ∧ r = .bl true := by
    unfold m_law
    refine fnX rfl (P := fun r => r = .bl true) ?_
    repeat (first | with_reducible refine ok_op ?_ | with_reducible refine ok_un ?_ | with_reducible refine ok_cb ?_ | with_reducible refine ok_cons ?_ | with_reducible refine ok_nil ?_ | with_reducible refine ok_giv ?_ | with_reducible refine ok_lst ?_ | with_reducible refine ok_tup ?_ | with_reducible refine ok_dic ?_ | with_reducible refine ok_bool ?_ | with_reducible refine ok_not ?_ | with_reducible refine ok_notV ?_ | with_reducible refine ok_sl ?_ | with_reducible refine ok_part ?_ | with_reducible refine ok_join ?_ | with_reducible refine ok_it ?_ | with_reducible refine ok_itA ?_ | with_reducible refine ok_call0 ?_ | with_reducible refine ok_callN ?_ | with_reducible refine ok_chain ?_ | ((with_reducible apply ok_var); rfl) | ((with_reducible apply ok_varL); rfl) | ((with_reducible apply ok_ixN); rfl) | ((with_reducible apply ok_ixM); rfl) | ((with_reducible apply ok_lenN); rfl) | ((with_reducible apply ok_lenM); rfl) | ((with_reducible apply ok_callY); rfl) | with_reducible refine dn_set ?_ | with_reducible refine dn_ret ?_ | with_reducible refine dn_retN ?_ | with_reducible refine dn_new ?_ | with_reducible refine dn_parN ?_ | with_reducible refine dn_par ?_ | with_reducible refine dn_pair ?_ | with_reducible refine dn_raise ?_ | ((with_reducible apply dn_app); rfl) | with_reducible refine dn_item ?_ | with_reducible refine sq_set ?_ | with_reducible refine sq_pair ?_ | with_reducible refine sq_par ?_ | with_reducible refine sq_parN ?_ | with_reducible refine sq_new ?_ | with_reducible refine sq_item ?_ | ((with_reducible apply sq_app); rfl) | refine ⟨_, _, _, rfl, rfl, rfl, ?_⟩ | refine ⟨_, rfl, ?_⟩ | refine ⟨⟨_, rfl⟩, ?_⟩ | refine ⟨Nat.le_of_ble_eq_true rfl, ?_⟩)
    refine ok_lc (fun _ => .bl true) ?_
    repeat (first | with_reducible refine ok_op ?_ | with_reducible refine ok_un ?_ | with_reducible refine ok_cb ?_ | with_reducible refine ok_cons ?_ | with_reducible refine ok_nil ?_ | with_reducible refine ok_giv ?_ | with_reducible refine ok_lst ?_ | with_reducible refine ok_tup ?_ | with_reducible refine ok_dic ?_ | with_reducible refine ok_bool ?_ | with_reducible refine ok_not ?_ | with_reducible refine ok_notV ?_ | with_reducible refine ok_sl ?_ | with_reducible refine ok_part ?_ | with_reducible refine ok_join ?_ | with_reducible refine ok_it ?_ | with_reducible refine ok_itA ?_ | with_reducible refine ok_call0 ?_ | with_reducible refine ok_callN ?_ | with_reducible refine ok_chain ?_ | ((with_reducible apply ok_var); rfl) | ((with_reducible apply ok_varL); rfl) | ((with_reducible apply ok_ixN); rfl) | ((with_reducible apply ok_ixM); rfl) | ((with_reducible apply ok_lenN); rfl) | ((with_reducible apply ok_lenM); rfl) | ((with_reducible apply ok_callY); rfl) | with_reducible refine dn_set ?_ | with_reducible refine dn_ret ?_ | with_reducible refine dn_retN ?_ | with_reducible refine dn_new ?_ | with_reducible refine dn_parN ?_ | with_reducible refine dn_par ?_ | with_reducible refine dn_pair ?_ | with_reducible refine dn_raise ?_ | ((with_reducible apply dn_app); rfl) | with_reducible refine dn_item ?_ | with_reducible refine sq_set ?_ | with_reducible refine sq_pair ?_ | with_reducible refine sq_par ?_ | with_reducible refine sq_parN ?_ | with_reducible refine sq_new ?_ | with_reducible refine sq_item ?_ | ((with_reducible apply sq_app); rfl) | refine ⟨_, _, _, rfl, rfl, rfl, ?_⟩ | refine ⟨_, rfl, ?_⟩ | refine ⟨⟨_, rfl⟩, ?_⟩ | refine ⟨Nat.le_of_ble_eq_true rfl, ?_⟩)
    obtain ⟨m, em, m1⟩ : ∃ m : Nat, (if (if ((ns.map D.int).length : Int) < 4 then ((ns.map D.int).length : Int) else 4) > 1 then (if ((ns.map D.int).length : Int) < 4 then ((ns.map D.int).length : Int) else 4) else 1) = (m : Int) ∧ m ≤ 4 := by
      refine ⟨(if (if ((ns.map D.int).length : Int) < 4 then ((ns.map D.int).length : Int) else 4) > 1 then (if ((ns.map D.int).length : Int) < 4 then ((ns.map D.int).length : Int) else 4) else 1).toNat, ?_, ?_⟩
      · split <;> (try split) <;> omega
      · split <;> (try split) <;> omega
    rw [em]
    refine ⟨_, rng_nat (by omega), by rw [rng_len]; omega, fun d hd => ⟨_, rfl, ?_⟩, ?_⟩
    · obtain ⟨i, hi, rfl⟩ := List.mem_map.mp hd
      have hi := List.mem_range.mp hi
      repeat (first | with_reducible refine ok_op ?_ | with_reducible refine ok_un ?_ | with_reducible refine ok_cb ?_ | with_reducible refine ok_cons ?_ | with_reducible refine ok_nil ?_ | with_reducible refine ok_giv ?_ | with_reducible refine ok_lst ?_ | with_reducible refine ok_tup ?_ | with_reducible refine ok_dic ?_ | with_reducible refine ok_bool ?_ | with_reducible refine ok_not ?_ | with_reducible refine ok_notV ?_ | with_reducible refine ok_sl ?_ | with_reducible refine ok_part ?_ | with_reducible refine ok_join ?_ | with_reducible refine ok_it ?_ | with_reducible refine ok_itA ?_ | with_reducible refine ok_call0 ?_ | with_reducible refine ok_callN ?_ | with_reducible refine ok_chain ?_ | ((with_reducible apply ok_var); rfl) | ((with_reducible apply ok_varL); rfl) | ((with_reducible apply ok_ixN); rfl) | ((with_reducible apply ok_ixM); rfl) | ((with_reducible apply ok_lenN); rfl) | ((with_reducible apply ok_lenM); rfl) | ((with_reducible apply ok_callY); rfl) | with_reducible refine dn_set ?_ | with_reducible refine dn_ret ?_ | with_reducible refine dn_retN ?_ | with_reducible refine dn_new ?_ | with_reducible refine dn_parN ?_ | with_reducible refine dn_par ?_ | with_reducible refine dn_pair ?_ | with_reducible refine dn_raise ?_ | ((with_reducible apply dn_app); rfl) | with_reducible refine dn_item ?_ | with_reducible refine sq_set ?_ | with_reducible refine sq_pair ?_ | with_reducible refine sq_par ?_ | with_reducible refine sq_parN ?_ | with_reducible refine sq_new ?_ | with_reducible refine sq_item ?_ | ((with_reducible apply sq_app); rfl) | refine ⟨_, _, _, rfl, rfl, rfl, ?_⟩ | refine ⟨_, rfl, ?_⟩ | refine ⟨⟨_, rfl⟩, ?_⟩ | refine ⟨Nat.le_of_ble_eq_true rfl, ?_⟩)
      obtain ⟨l, e1, p1⟩ := pot_ok (A := A) (ns := ns) (i := i) (by omega)
      obtain ⟨ms', e2⟩ := right_ok g p1
      exact ⟨l, e1, _, ms', e2, rfl, rfl⟩
    · repeat (first | with_reducible refine ok_op ?_ | with_reducible refine ok_un ?_ | with_reducible refine ok_cb ?_ | with_reducible refine ok_cons ?_ | with_reducible refine ok_nil ?_ | with_reducible refine ok_giv ?_ | with_reducible refine ok_lst ?_ | with_reducible refine ok_tup ?_ | with_reducible refine ok_dic ?_ | with_reducible refine ok_bool ?_ | with_reducible refine ok_not ?_ | with_reducible refine ok_notV ?_ | with_reducible refine ok_sl ?_ | with_reducible refine ok_part ?_ | with_reducible refine ok_join ?_ | with_reducible refine ok_it ?_ | with_reducible refine ok_itA ?_ | with_reducible refine ok_call0 ?_ | with_reducible refine ok_callN ?_ | with_reducible refine ok_chain ?_ | ((with_reducible apply ok_var); rfl) | ((with_reducible apply ok_varL); rfl) | ((with_reducible apply ok_ixN); rfl) | ((with_reducible apply ok_ixM); rfl) | ((with_reducible apply ok_lenN); rfl) | ((with_reducible apply ok_lenM); rfl) | ((with_reducible apply ok_callY); rfl) | with_reducible refine dn_set ?_ | with_reducible refine dn_ret ?_ | with_reducible refine dn_retN ?_ | with_reducible refine dn_new ?_ | with_reducible refine dn_parN ?_ | with_reducible refine dn_par ?_ | with_reducible refine dn_pair ?_ | with_reducible refine dn_raise ?_ | ((with_reducible apply dn_app); rfl) | with_reducible refine dn_item ?_ | with_reducible refine sq_set ?_ | with_reducible refine sq_pair ?_ | with_reducible refine sq_par ?_ | with_reducible refine sq_parN ?_ | with_reducible refine sq_new ?_ | with_reducible refine sq_item ?_ | ((with_reducible apply sq_app); rfl) | refine ⟨_, _, _, rfl, rfl, rfl, ?_⟩ | refine ⟨_, rfl, ?_⟩ | refine ⟨⟨_, rfl⟩, ?_⟩ | refine ⟨Nat.le_of_ble_eq_true rfl, ?_⟩)
      have := all_bl (g := fun _ => true) (ds := (List.range m).map fun i : Nat => D.int (i : Int))
      rw [this]
      exact ⟨_, rfl, _, rfl, by simp⟩
  obtain ⟨r, e, rfl⟩ := key
  exact e
end L02
namespace L02
open PySem L2 Wd
/-! ### the text's top -/
theorem kit_out {K : PySem.W.Frag} {C : Addr} {T : String} (hm : PySem.W.kitMeta T = true) (h : PySem.W.mroIn K C (.type T) = some false) : PySem.W.kitOne K (.ref C) (.type T) = some false := by
  have e : (Value.ref C == Value.type T) = false := by rfl
  unfold PySem.W.kitOne PySem.W.kitCls
  rw [e]
  simp only [Bool.false_eq_true, if_false, hm, if_true]
  exact h
theorem kit_own {K : PySem.W.Frag} {C : Addr} {t : Value} {b : Bool} (h1 : PySem.W.isClsIn K C = true) (h2 : PySem.W.typeIn K (.ref C) = some (.type "type")) (e : (t == Value.ref C) = false) (h : PySem.W.subIn K t (.ref C) = some b) : PySem.W.kitOne K t (.ref C) = some b := by
  have h3 : ((PySem.W.clsIn K C).isSome && PySem.W.typeIn K (.ref C) == some (.type "type")) = true := by
    rw [h2]
    have : (PySem.W.clsIn K C).isSome = true := h1
    rw [this]
    rfl
  unfold PySem.W.kitOne PySem.W.kitCls
  rw [e]
  simp only [Bool.false_eq_true, if_false, h3, if_true]
  exact h
theorem kit_err {K : PySem.W.Frag} {A : Adr} {C C' : Addr} {n : String} {b : Bool} (h1 : PySem.W.isClsIn K C' = true) (h2 : PySem.W.typeIn K (.ref C') = some (.type "type")) (ne : decide (C = C') = false) (h : PySem.W.subIn K (.ref C) (.ref C') = some b) (a : A.a n = C') (hb : (n == "WireError") = b) :
    PySem.W.kitOne K (.ref C) (.ref (A.a n)) = some (decide (C = A.a n) || n == "WireError") := by
  rw [a, ne, hb, Bool.false_or]
  refine kit_own h1 h2 ?_ h
  have := of_decide_eq_false ne
  exact beq_eq_false_iff_ne.mpr fun z => this (Value.ref.inj z)
theorem kit_me {K : PySem.W.Frag} {A : Adr} {C : Addr} {n : String} (a : A.a n = C) (hb : (n == "WireError") = false) : PySem.W.kitOne K (.ref C) (.ref (A.a n)) = some (decide (C = A.a n) || n == "WireError") := by
  rw [a, hb, decide_eq_true rfl, Bool.true_or]
  unfold PySem.W.kitOne
  exact if_pos (by simp)
theorem sub_n {K : PySem.W.Frag} {C : Addr} : PySem.W.subIn K (.type "NoneType") (.ref C) = some false := by kernel_rfl
theorem sub_b {K : PySem.W.Frag} {C : Addr} : PySem.W.subIn K (.type "bool") (.ref C) = some false := by kernel_rfl
theorem sub_i {K : PySem.W.Frag} {C : Addr} : PySem.W.subIn K (.type "int") (.ref C) = some false := by kernel_rfl
theorem sub_s {K : PySem.W.Frag} {C : Addr} : PySem.W.subIn K (.type "str") (.ref C) = some false := by kernel_rfl
theorem sub_l {K : PySem.W.Frag} {C : Addr} : PySem.W.subIn K (.type "list") (.ref C) = some false := by kernel_rfl
theorem sub_t {K : PySem.W.Frag} {C : Addr} : PySem.W.subIn K (.type "tuple") (.ref C) = some false := by kernel_rfl
theorem sub_d {K : PySem.W.Frag} {C : Addr} : PySem.W.subIn K (.type "dict") (.ref C) = some false := by kernel_rfl
theorem kit_seven {K : PySem.W.Frag} {C : Addr} (h1 : PySem.W.isClsIn K C = true) (h2 : PySem.W.typeIn K (.ref C) = some (.type "type")) : ∀ T ∈ ["NoneType", "bool", "int", "str", "list", "tuple", "dict"], PySem.W.kitOne K (.type T) (.ref C) = some false := by
  intro T hT
  simp only [List.mem_cons, List.not_mem_nil, or_false] at hT
  rcases hT with rfl | rfl | rfl | rfl | rfl | rfl | rfl
  · exact kit_own h1 h2 rfl sub_n
  · exact kit_own h1 h2 rfl sub_b
  · exact kit_own h1 h2 rfl sub_i
  · exact kit_own h1 h2 rfl sub_s
  · exact kit_own h1 h2 rfl sub_l
  · exact kit_own h1 h2 rfl sub_t
  · exact kit_own h1 h2 rfl sub_d
theorem m_int : PySem.W.kitMeta "int" = true := by decide +kernel
theorem m_bool : PySem.W.kitMeta "bool" = true := by decide +kernel
theorem m_tuple : PySem.W.kitMeta "tuple" = true := by decide +kernel
theorem m_str : PySem.W.kitMeta "str" = true := by decide +kernel
theorem prim_int {K : PySem.W.Frag} : ∀ x : D, (∀ C gs, x ≠ .obj C gs) → (∀ C gs, x ≠ .err C gs) → PySem.W.kitOne K x.ty (.type "int") = some (D.kInt x) := fun x h1 h2 => by
  cases x with
  | obj C gs => exact absurd rfl (h1 C gs)
  | err C gs => exact absurd rfl (h2 C gs)
  | _ => exact kit_ty (show kitB _ "int" = some _ by simp only [D.kInt]; decide +kernel)
theorem prim_bool {K : PySem.W.Frag} : ∀ x : D, (∀ C gs, x ≠ .obj C gs) → (∀ C gs, x ≠ .err C gs) → PySem.W.kitOne K x.ty (.type "bool") = some (D.kBool x) := fun x h1 h2 => by
  cases x with
  | obj C gs => exact absurd rfl (h1 C gs)
  | err C gs => exact absurd rfl (h2 C gs)
  | _ => exact kit_ty (show kitB _ "bool" = some _ by simp only [D.kBool]; decide +kernel)
theorem prim_tuple {K : PySem.W.Frag} : ∀ x : D, (∀ C gs, x ≠ .obj C gs) → (∀ C gs, x ≠ .err C gs) → PySem.W.kitOne K x.ty (.type "tuple") = some (D.kTup x) := fun x h1 h2 => by
  cases x with
  | obj C gs => exact absurd rfl (h1 C gs)
  | err C gs => exact absurd rfl (h2 C gs)
  | _ => exact kit_ty (show kitB _ "tuple" = some _ by simp only [D.kTup]; decide +kernel)
theorem prim_str {K : PySem.W.Frag} : ∀ x : D, (∀ C gs, x ≠ .obj C gs) → (∀ C gs, x ≠ .err C gs) → PySem.W.kitOne K x.ty (.type "str") = some (D.kStr x) := fun x h1 h2 => by
  cases x with
  | obj C gs => exact absurd rfl (h1 C gs)
  | err C gs => exact absurd rfl (h2 C gs)
  | _ => exact kit_ty (show kitB _ "str" = some _ by simp only [D.kStr]; decide +kernel)
theorem exm_of {K : PySem.W.Frag} {C CW : Addr} (hb : PySem.W.subIn K (.ref CW) (.type "BaseException") = some true) (h1 : PySem.W.isClsIn K CW = true) (h2 : PySem.W.typeIn K (.ref CW) = some (.type "type")) (h : PySem.W.subIn K (.ref C) (.ref CW) = some true) :
    PySem.W.exmOne K (.ref C) (.ref CW) = some true := by
  have h3 : ((PySem.W.clsIn K CW).isSome && PySem.W.typeIn K (.ref CW) == some (.type "type")) = true := by
    rw [h2]
    have : (PySem.W.clsIn K CW).isSome = true := h1
    rw [this]
    rfl
  unfold PySem.W.exmOne PySem.W.kitCls
  rw [hb]
  simp only [h3, if_true, h]
  rfl
theorem ok_err [Tab] {P : Program} {w : World} {K : PySem.W.Frag} {mg : Str → Option Value} {base : Heap} {f : Addr} {fd : FuncData} (F : Fun K "__init__" "WireError.__init__" s_err f fd) : FnOk P w K mg base CX0 1 f fd ["self", "value"] (spErr K) := by
  refine F.ok (k := 0) sc_err (fun vs H Q E h => by obtain ⟨a, C, x, rfl, _⟩ := h; rfl) (fun cdv A' outer s H vs Q E hr h => ?_)
  refine ⟨_, pss_one (ps_ost (pv 0) (pv 1)), ?_⟩
  obtain ⟨a, C, x, rfl, h1, h2, h3, h4⟩ := h
  exact ⟨x, rfl, .ref a, rfl, a, C, rfl, h1, h2, .inl ⟨h3, h4⟩⟩
/-- no list stands in K -/
def bare : Value → Bool
  | .type t => !(t == "list")
  | _ => true
theorem all_look {K : PySem.W.Frag} (h : K.all (fun p => bare p.2.cls) = true) : ∀ (a : Addr) (o : Obj), K.lookup a = some o → o.cls ≠ .type "list" := by
  induction K with
  | nil => intro a o e; cases e
  | cons p r ih =>
    intro a o e
    obtain ⟨b, x⟩ := p
    simp only [List.all_cons, Bool.and_eq_true] at h
    rw [List.lookup_cons] at e
    split at e
    · cases e
      intro z
      have h1 := h.1
      rw [z] at h1
      revert h1
      decide
    · exact ih h.2 a o e
theorem prom_law {tab : Tab} {m : List D → Option (Rs D)} {H : Hp} {a Pt : Addr} {ns : List Int} {qn : Str} (ht : tab.T = [(Pt, qn)]) (hT : H Pt = some (.tbl #[]))
    (hO : ∀ b o, H b = some o → (b = a ∧ ∃ ob, o = .frz ob (.lst (ns.map V.int))) ∨ ∃ ps, o = .tbl ps) (hS : ∃ ob, H a = some (.frz ob (.lst (ns.map V.int)))) (hm : m [.scr (ns.map D.int)] = some (.ok (.bl true))) :
    @spX tab m [.ref a] H (fun v _ => v = .bl true) fun _ _ _ => False := by
  have allI : ∀ (B : Hp) (l : List Int), IsA B (l.map V.int) (l.map D.int) := fun B l => by
    induction l with
    | nil => exact .nil
    | cons i l ih => exact .cons (.int i) ih
  obtain ⟨ob, ha⟩ := hS
  refine ⟨fun b => if b = a then H b else none, [.scr (ns.map D.int)], _, ⟨fun b o q => ?_, fun p hp => ?_, fun b ps q => ?_⟩, .one (.scr (by show (if a = a then H a else none) = _; rw [if_pos rfl]; exact ha) (allI _ ns)), hm, fun v B' H' _ i => by cases i; rfl⟩
  · have q' : (if b = a then H b else none) = some o := q
    split at q'
    · exact q'
    · cases q'
  · rw [ht] at hp
    have e := List.mem_singleton.mp hp
    subst e
    exact ⟨#[], hT, True.intro, fun pos cv z => nomatch z⟩
  · have q' : (if b = a then H b else none) = some (.tbl ps) := q
    split at q'
    · rename_i e
      rw [e, ha] at q'
      cases q'
    · cases q'

def mkA (c_Board c_BadBoard c_BadRows c_WireError : Addr) : Adr := ⟨fun C => decide (C = c_Board), fun C => decide (C = c_BadBoard) || decide (C = c_BadRows), fun n => (([("Board", c_Board), ("BadBoard", c_BadBoard), ("BadRows", c_BadRows), ("WireError", c_WireError)] : List (String × Addr)).lookup n).getD 0⟩
theorem mkA_Board {c_Board c_BadBoard c_BadRows c_WireError : Addr} : (mkA c_Board c_BadBoard c_BadRows c_WireError).a "Board" = c_Board := by simp [mkA, List.lookup]
theorem mkA_BadBoard {c_Board c_BadBoard c_BadRows c_WireError : Addr} : (mkA c_Board c_BadBoard c_BadRows c_WireError).a "BadBoard" = c_BadBoard := by simp [mkA, List.lookup]
theorem mkA_BadRows {c_Board c_BadBoard c_BadRows c_WireError : Addr} : (mkA c_Board c_BadBoard c_BadRows c_WireError).a "BadRows" = c_BadRows := by simp [mkA, List.lookup]
theorem mkA_WireError {c_Board c_BadBoard c_BadRows c_WireError : Addr} : (mkA c_Board c_BadBoard c_BadRows c_WireError).a "WireError" = c_WireError := by simp [mkA, List.lookup]
theorem all_mk {l : PySem.W.OpenLaw} {w : World} {K : PySem.W.Frag} {h : Heap} {mg : Str → Option Value} {fa c_Board c_BadBoard c_BadRows c_WireError f_d_law_take f_d_law_size f_d_law_rows f_d_law_small_rows f_d_law_of f_d_law_odd f_d_law_spoilt f_d_law_bent_rows f_d_none_is_empty f_d_turned f_d_is_row f_d_are_rows f_d_dots_of f_d_wires_of f_dBoard___init__ f_d_law_are_rows f_d_law_is_judged f_d_law_right f_d_law_pot f_dlaw f_dref f_derr : Addr} (X : K.In h) (G : h.Ns mainGlobals mg) (hfa : mg "law" = some (.ref fa))
    {od_d_law_take an_d_law_take od_d_law_size an_d_law_size od_d_law_rows an_d_law_rows od_d_law_small_rows an_d_law_small_rows od_d_law_of an_d_law_of od_d_law_odd an_d_law_odd od_d_law_spoilt an_d_law_spoilt od_d_law_bent_rows an_d_law_bent_rows od_d_none_is_empty an_d_none_is_empty od_d_turned an_d_turned od_d_is_row an_d_is_row od_d_are_rows an_d_are_rows od_d_dots_of an_d_dots_of od_d_wires_of an_d_wires_of od_dBoard___init__ an_dBoard___init__ od_d_law_are_rows an_d_law_are_rows od_d_law_is_judged an_d_law_is_judged od_d_law_right an_d_law_right od_d_law_pot an_d_law_pot od_dlaw an_dlaw od_dref an_dref od_derr an_derr : Option Addr} {sl_d_law_take sl_d_law_size sl_d_law_rows sl_d_law_small_rows sl_d_law_of sl_d_law_odd sl_d_law_spoilt sl_d_law_bent_rows sl_d_none_is_empty sl_d_turned sl_d_is_row sl_d_are_rows sl_d_dots_of sl_d_wires_of sl_dBoard___init__ sl_d_law_are_rows sl_d_law_is_judged sl_d_law_right sl_d_law_pot sl_dlaw sl_dref sl_derr : Array (Option Value)} {oc_d_law_take kv_d_law_take dc_d_law_take pm_d_law_take ct_d_law_take oc_d_law_size kv_d_law_size dc_d_law_size pm_d_law_size ct_d_law_size oc_d_law_rows kv_d_law_rows dc_d_law_rows pm_d_law_rows ct_d_law_rows oc_d_law_small_rows kv_d_law_small_rows dc_d_law_small_rows pm_d_law_small_rows ct_d_law_small_rows oc_d_law_of kv_d_law_of dc_d_law_of pm_d_law_of ct_d_law_of oc_d_law_odd kv_d_law_odd dc_d_law_odd pm_d_law_odd ct_d_law_odd oc_d_law_spoilt kv_d_law_spoilt dc_d_law_spoilt pm_d_law_spoilt ct_d_law_spoilt oc_d_law_bent_rows kv_d_law_bent_rows dc_d_law_bent_rows pm_d_law_bent_rows ct_d_law_bent_rows oc_d_none_is_empty kv_d_none_is_empty dc_d_none_is_empty pm_d_none_is_empty ct_d_none_is_empty oc_d_turned kv_d_turned dc_d_turned pm_d_turned ct_d_turned oc_d_is_row kv_d_is_row dc_d_is_row pm_d_is_row ct_d_is_row oc_d_are_rows kv_d_are_rows dc_d_are_rows pm_d_are_rows ct_d_are_rows oc_d_dots_of kv_d_dots_of dc_d_dots_of pm_d_dots_of ct_d_dots_of oc_d_wires_of kv_d_wires_of dc_d_wires_of pm_d_wires_of ct_d_wires_of oc_dBoard___init__ kv_dBoard___init__ dc_dBoard___init__ pm_dBoard___init__ ct_dBoard___init__ oc_d_law_are_rows kv_d_law_are_rows dc_d_law_are_rows pm_d_law_are_rows ct_d_law_are_rows oc_d_law_is_judged kv_d_law_is_judged dc_d_law_is_judged pm_d_law_is_judged ct_d_law_is_judged oc_d_law_right kv_d_law_right dc_d_law_right pm_d_law_right ct_d_law_right oc_d_law_pot kv_d_law_pot dc_d_law_pot pm_d_law_pot ct_d_law_pot oc_dlaw kv_dlaw dc_dlaw pm_dlaw ct_dlaw oc_dref kv_dref dc_dref pm_dref ct_dref oc_derr kv_derr dc_derr pm_derr ct_derr cd_d_law_take cd_d_law_size cd_d_law_rows cd_d_law_small_rows cd_d_law_of cd_d_law_odd cd_d_law_spoilt cd_d_law_bent_rows cd_d_none_is_empty cd_d_turned cd_d_is_row cd_d_are_rows cd_d_dots_of cd_d_wires_of cd_dBoard___init__ cd_d_law_are_rows cd_d_law_right cd_d_law_pot cd_dlaw cd_dref cd_derr : Value} {t_DOT : Tok} {t_LONGEST : Tok} {t_NO_DOT : Tok}
    {cd_d_law_is_judged Pt_d_law_is_judged : Addr} {odc_d_law_is_judged : Option Addr} {vs_d_law_is_judged : Array Value} {slc_d_law_is_judged : Array (Option Value)}
    {nm_BadBoard q_BadBoard : Str} {N_BadBoard : Addr} {bs_BadBoard bm_BadBoard : List Value} {sn_BadBoard : List Str} {sub_BadBoard : List Value} {ab_BadBoard : Bool} {col_BadBoard : Option Bool} {dd_BadBoard : Option Addr} {m0_BadBoard m1_BadBoard m2_BadBoard m3_BadBoard m5_BadBoard : Option Value}
    {nm_BadRows q_BadRows : Str} {N_BadRows : Addr} {bs_BadRows bm_BadRows : List Value} {sn_BadRows : List Str} {sub_BadRows : List Value} {ab_BadRows : Bool} {col_BadRows : Option Bool} {dd_BadRows : Option Addr} {m0_BadRows m1_BadRows m2_BadRows m3_BadRows m5_BadRows : Option Value}
    (g_Board : PySem.W.nsIn K mainGlobals "Board" = some (some (.ref c_Board)))
    (g_BadBoard : PySem.W.nsIn K mainGlobals "BadBoard" = some (some (.ref c_BadBoard)))
    (g_BadRows : PySem.W.nsIn K mainGlobals "BadRows" = some (some (.ref c_BadRows)))
    (g_WireError : PySem.W.nsIn K mainGlobals "WireError" = some (some (.ref c_WireError)))
    (g_d_law_take : PySem.W.nsIn K mainGlobals "_law_take" = some (some (.ref f_d_law_take)))
    (l_d_law_take : K.lookup f_d_law_take = some ⟨oc_d_law_take, od_d_law_take, .func (PySem.W.fnOf "_law_take" "_law_take" (defArgs s__law_take) (defBody s__law_take) (defScope s__law_take) .none kv_d_law_take dc_d_law_take pm_d_law_take an_d_law_take cd_d_law_take ct_d_law_take), sl_d_law_take⟩)
    (cc_d_law_take : PySem.W.codeIn K cd_d_law_take "_law_take" = true)
    (k_d_law_take : PySem.W.keepIn K (.ref f_d_law_take) = true)
    (g_d_law_size : PySem.W.nsIn K mainGlobals "_law_size" = some (some (.ref f_d_law_size)))
    (l_d_law_size : K.lookup f_d_law_size = some ⟨oc_d_law_size, od_d_law_size, .func (PySem.W.fnOf "_law_size" "_law_size" (defArgs s__law_size) (defBody s__law_size) (defScope s__law_size) .none kv_d_law_size dc_d_law_size pm_d_law_size an_d_law_size cd_d_law_size ct_d_law_size), sl_d_law_size⟩)
    (cc_d_law_size : PySem.W.codeIn K cd_d_law_size "_law_size" = true)
    (k_d_law_size : PySem.W.keepIn K (.ref f_d_law_size) = true)
    (g_d_law_rows : PySem.W.nsIn K mainGlobals "_law_rows" = some (some (.ref f_d_law_rows)))
    (l_d_law_rows : K.lookup f_d_law_rows = some ⟨oc_d_law_rows, od_d_law_rows, .func (PySem.W.fnOf "_law_rows" "_law_rows" (defArgs s__law_rows) (defBody s__law_rows) (defScope s__law_rows) .none kv_d_law_rows dc_d_law_rows pm_d_law_rows an_d_law_rows cd_d_law_rows ct_d_law_rows), sl_d_law_rows⟩)
    (cc_d_law_rows : PySem.W.codeIn K cd_d_law_rows "_law_rows" = true)
    (k_d_law_rows : PySem.W.keepIn K (.ref f_d_law_rows) = true)
    (g_d_law_small_rows : PySem.W.nsIn K mainGlobals "_law_small_rows" = some (some (.ref f_d_law_small_rows)))
    (l_d_law_small_rows : K.lookup f_d_law_small_rows = some ⟨oc_d_law_small_rows, od_d_law_small_rows, .func (PySem.W.fnOf "_law_small_rows" "_law_small_rows" (defArgs s__law_small_rows) (defBody s__law_small_rows) (defScope s__law_small_rows) .none kv_d_law_small_rows dc_d_law_small_rows pm_d_law_small_rows an_d_law_small_rows cd_d_law_small_rows ct_d_law_small_rows), sl_d_law_small_rows⟩)
    (cc_d_law_small_rows : PySem.W.codeIn K cd_d_law_small_rows "_law_small_rows" = true)
    (k_d_law_small_rows : PySem.W.keepIn K (.ref f_d_law_small_rows) = true)
    (g_d_law_of : PySem.W.nsIn K mainGlobals "_law_of" = some (some (.ref f_d_law_of)))
    (l_d_law_of : K.lookup f_d_law_of = some ⟨oc_d_law_of, od_d_law_of, .func (PySem.W.fnOf "_law_of" "_law_of" (defArgs s__law_of) (defBody s__law_of) (defScope s__law_of) .none kv_d_law_of dc_d_law_of pm_d_law_of an_d_law_of cd_d_law_of ct_d_law_of), sl_d_law_of⟩)
    (cc_d_law_of : PySem.W.codeIn K cd_d_law_of "_law_of" = true)
    (k_d_law_of : PySem.W.keepIn K (.ref f_d_law_of) = true)
    (g_d_law_odd : PySem.W.nsIn K mainGlobals "_law_odd" = some (some (.ref f_d_law_odd)))
    (l_d_law_odd : K.lookup f_d_law_odd = some ⟨oc_d_law_odd, od_d_law_odd, .func (PySem.W.fnOf "_law_odd" "_law_odd" (defArgs s__law_odd) (defBody s__law_odd) (defScope s__law_odd) .none kv_d_law_odd dc_d_law_odd pm_d_law_odd an_d_law_odd cd_d_law_odd ct_d_law_odd), sl_d_law_odd⟩)
    (cc_d_law_odd : PySem.W.codeIn K cd_d_law_odd "_law_odd" = true)
    (k_d_law_odd : PySem.W.keepIn K (.ref f_d_law_odd) = true)
    (g_d_law_spoilt : PySem.W.nsIn K mainGlobals "_law_spoilt" = some (some (.ref f_d_law_spoilt)))
    (l_d_law_spoilt : K.lookup f_d_law_spoilt = some ⟨oc_d_law_spoilt, od_d_law_spoilt, .func (PySem.W.fnOf "_law_spoilt" "_law_spoilt" (defArgs s__law_spoilt) (defBody s__law_spoilt) (defScope s__law_spoilt) .none kv_d_law_spoilt dc_d_law_spoilt pm_d_law_spoilt an_d_law_spoilt cd_d_law_spoilt ct_d_law_spoilt), sl_d_law_spoilt⟩)
    (cc_d_law_spoilt : PySem.W.codeIn K cd_d_law_spoilt "_law_spoilt" = true)
    (k_d_law_spoilt : PySem.W.keepIn K (.ref f_d_law_spoilt) = true)
    (g_d_law_bent_rows : PySem.W.nsIn K mainGlobals "_law_bent_rows" = some (some (.ref f_d_law_bent_rows)))
    (l_d_law_bent_rows : K.lookup f_d_law_bent_rows = some ⟨oc_d_law_bent_rows, od_d_law_bent_rows, .func (PySem.W.fnOf "_law_bent_rows" "_law_bent_rows" (defArgs s__law_bent_rows) (defBody s__law_bent_rows) (defScope s__law_bent_rows) .none kv_d_law_bent_rows dc_d_law_bent_rows pm_d_law_bent_rows an_d_law_bent_rows cd_d_law_bent_rows ct_d_law_bent_rows), sl_d_law_bent_rows⟩)
    (cc_d_law_bent_rows : PySem.W.codeIn K cd_d_law_bent_rows "_law_bent_rows" = true)
    (k_d_law_bent_rows : PySem.W.keepIn K (.ref f_d_law_bent_rows) = true)
    (g_d_none_is_empty : PySem.W.nsIn K mainGlobals "_none_is_empty" = some (some (.ref f_d_none_is_empty)))
    (l_d_none_is_empty : K.lookup f_d_none_is_empty = some ⟨oc_d_none_is_empty, od_d_none_is_empty, .func (PySem.W.fnOf "_none_is_empty" "_none_is_empty" (defArgs s__none_is_empty) (defBody s__none_is_empty) (defScope s__none_is_empty) .none kv_d_none_is_empty dc_d_none_is_empty pm_d_none_is_empty an_d_none_is_empty cd_d_none_is_empty ct_d_none_is_empty), sl_d_none_is_empty⟩)
    (cc_d_none_is_empty : PySem.W.codeIn K cd_d_none_is_empty "_none_is_empty" = true)
    (k_d_none_is_empty : PySem.W.keepIn K (.ref f_d_none_is_empty) = true)
    (g_d_turned : PySem.W.nsIn K mainGlobals "_turned" = some (some (.ref f_d_turned)))
    (l_d_turned : K.lookup f_d_turned = some ⟨oc_d_turned, od_d_turned, .func (PySem.W.fnOf "_turned" "_turned" (defArgs s__turned) (defBody s__turned) (defScope s__turned) .none kv_d_turned dc_d_turned pm_d_turned an_d_turned cd_d_turned ct_d_turned), sl_d_turned⟩)
    (cc_d_turned : PySem.W.codeIn K cd_d_turned "_turned" = true)
    (k_d_turned : PySem.W.keepIn K (.ref f_d_turned) = true)
    (g_d_is_row : PySem.W.nsIn K mainGlobals "_is_row" = some (some (.ref f_d_is_row)))
    (l_d_is_row : K.lookup f_d_is_row = some ⟨oc_d_is_row, od_d_is_row, .func (PySem.W.fnOf "_is_row" "_is_row" (defArgs s__is_row) (defBody s__is_row) (defScope s__is_row) .none kv_d_is_row dc_d_is_row pm_d_is_row an_d_is_row cd_d_is_row ct_d_is_row), sl_d_is_row⟩)
    (cc_d_is_row : PySem.W.codeIn K cd_d_is_row "_is_row" = true)
    (k_d_is_row : PySem.W.keepIn K (.ref f_d_is_row) = true)
    (g_d_are_rows : PySem.W.nsIn K mainGlobals "_are_rows" = some (some (.ref f_d_are_rows)))
    (l_d_are_rows : K.lookup f_d_are_rows = some ⟨oc_d_are_rows, od_d_are_rows, .func (PySem.W.fnOf "_are_rows" "_are_rows" (defArgs s__are_rows) (defBody s__are_rows) (defScope s__are_rows) .none kv_d_are_rows dc_d_are_rows pm_d_are_rows an_d_are_rows cd_d_are_rows ct_d_are_rows), sl_d_are_rows⟩)
    (cc_d_are_rows : PySem.W.codeIn K cd_d_are_rows "_are_rows" = true)
    (k_d_are_rows : PySem.W.keepIn K (.ref f_d_are_rows) = true)
    (g_d_dots_of : PySem.W.nsIn K mainGlobals "_dots_of" = some (some (.ref f_d_dots_of)))
    (l_d_dots_of : K.lookup f_d_dots_of = some ⟨oc_d_dots_of, od_d_dots_of, .func (PySem.W.fnOf "_dots_of" "_dots_of" (defArgs s__dots_of) (defBody s__dots_of) (defScope s__dots_of) .none kv_d_dots_of dc_d_dots_of pm_d_dots_of an_d_dots_of cd_d_dots_of ct_d_dots_of), sl_d_dots_of⟩)
    (cc_d_dots_of : PySem.W.codeIn K cd_d_dots_of "_dots_of" = true)
    (k_d_dots_of : PySem.W.keepIn K (.ref f_d_dots_of) = true)
    (g_d_wires_of : PySem.W.nsIn K mainGlobals "_wires_of" = some (some (.ref f_d_wires_of)))
    (l_d_wires_of : K.lookup f_d_wires_of = some ⟨oc_d_wires_of, od_d_wires_of, .func (PySem.W.fnOf "_wires_of" "_wires_of" (defArgs s__wires_of) (defBody s__wires_of) (defScope s__wires_of) .none kv_d_wires_of dc_d_wires_of pm_d_wires_of an_d_wires_of cd_d_wires_of ct_d_wires_of), sl_d_wires_of⟩)
    (cc_d_wires_of : PySem.W.codeIn K cd_d_wires_of "_wires_of" = true)
    (k_d_wires_of : PySem.W.keepIn K (.ref f_d_wires_of) = true)
    (g_dBoard___init__ : PySem.W.findIn K (.ref c_Board) "__init__" = some (some (.ref f_dBoard___init__)))
    (i_dBoard___init__ : PySem.W.isFn K (.ref f_dBoard___init__) = true)
    (l_dBoard___init__ : K.lookup f_dBoard___init__ = some ⟨oc_dBoard___init__, od_dBoard___init__, .func (PySem.W.fnOf "__init__" "Board.__init__" (defArgs s_Board___init__) (defBody s_Board___init__) (defScope s_Board___init__) .none kv_dBoard___init__ dc_dBoard___init__ pm_dBoard___init__ an_dBoard___init__ cd_dBoard___init__ ct_dBoard___init__), sl_dBoard___init__⟩)
    (cc_dBoard___init__ : PySem.W.codeIn K cd_dBoard___init__ "Board.__init__" = true)
    (k_dBoard___init__ : PySem.W.keepIn K (.ref f_dBoard___init__) = true)
    (g_d_law_are_rows : PySem.W.nsIn K mainGlobals "_law_are_rows" = some (some (.ref f_d_law_are_rows)))
    (l_d_law_are_rows : K.lookup f_d_law_are_rows = some ⟨oc_d_law_are_rows, od_d_law_are_rows, .func (PySem.W.fnOf "_law_are_rows" "_law_are_rows" (defArgs s__law_are_rows) (defBody s__law_are_rows) (defScope s__law_are_rows) .none kv_d_law_are_rows dc_d_law_are_rows pm_d_law_are_rows an_d_law_are_rows cd_d_law_are_rows ct_d_law_are_rows), sl_d_law_are_rows⟩)
    (cc_d_law_are_rows : PySem.W.codeIn K cd_d_law_are_rows "_law_are_rows" = true)
    (k_d_law_are_rows : PySem.W.keepIn K (.ref f_d_law_are_rows) = true)
    (g_d_law_is_judged : PySem.W.nsIn K mainGlobals "_law_is_judged" = some (some (.ref f_d_law_is_judged)))
    (l_d_law_is_judged : K.lookup f_d_law_is_judged = some ⟨oc_d_law_is_judged, od_d_law_is_judged, .func (PySem.W.fnOf "_law_is_judged" "_law_is_judged" (defArgs s__law_is_judged) (defBody s__law_is_judged) (defScope s__law_is_judged) .none kv_d_law_is_judged dc_d_law_is_judged pm_d_law_is_judged an_d_law_is_judged (.ref cd_d_law_is_judged) ct_d_law_is_judged), sl_d_law_is_judged⟩)
    (cc_d_law_is_judged : PySem.W.codeIn K (.ref cd_d_law_is_judged) "_law_is_judged" = true)
    (k_d_law_is_judged : PySem.W.keepIn K (.ref f_d_law_is_judged) = true)
    (lc_d_law_is_judged : K.lookup cd_d_law_is_judged = some ⟨.type "code", odc_d_law_is_judged, .fields vs_d_law_is_judged, slc_d_law_is_judged⟩)
    (hp_d_law_is_judged : (vs_d_law_is_judged[11]? : Option Value) = some (.ref Pt_d_law_is_judged))
    (hh_d_law_is_judged : PySem.W.codeHdIn K cd_d_law_is_judged Pt_d_law_is_judged = true)
    (nt_d_law_is_judged : K.lookup Pt_d_law_is_judged = none)
    (tb_d_law_is_judged : h.get? Pt_d_law_is_judged = some (PySem.W.tabObj #[]))
    (g_d_law_right : PySem.W.nsIn K mainGlobals "_law_right" = some (some (.ref f_d_law_right)))
    (l_d_law_right : K.lookup f_d_law_right = some ⟨oc_d_law_right, od_d_law_right, .func (PySem.W.fnOf "_law_right" "_law_right" (defArgs s__law_right) (defBody s__law_right) (defScope s__law_right) .none kv_d_law_right dc_d_law_right pm_d_law_right an_d_law_right cd_d_law_right ct_d_law_right), sl_d_law_right⟩)
    (cc_d_law_right : PySem.W.codeIn K cd_d_law_right "_law_right" = true)
    (k_d_law_right : PySem.W.keepIn K (.ref f_d_law_right) = true)
    (g_d_law_pot : PySem.W.nsIn K mainGlobals "_law_pot" = some (some (.ref f_d_law_pot)))
    (l_d_law_pot : K.lookup f_d_law_pot = some ⟨oc_d_law_pot, od_d_law_pot, .func (PySem.W.fnOf "_law_pot" "_law_pot" (defArgs s__law_pot) (defBody s__law_pot) (defScope s__law_pot) .none kv_d_law_pot dc_d_law_pot pm_d_law_pot an_d_law_pot cd_d_law_pot ct_d_law_pot), sl_d_law_pot⟩)
    (cc_d_law_pot : PySem.W.codeIn K cd_d_law_pot "_law_pot" = true)
    (k_d_law_pot : PySem.W.keepIn K (.ref f_d_law_pot) = true)
    (g_dlaw : PySem.W.nsIn K mainGlobals "law" = some (some (.ref f_dlaw)))
    (l_dlaw : K.lookup f_dlaw = some ⟨oc_dlaw, od_dlaw, .func (PySem.W.fnOf "law" "law" (defArgs s_law) (defBody s_law) (defScope s_law) .none kv_dlaw dc_dlaw pm_dlaw an_dlaw cd_dlaw ct_dlaw), sl_dlaw⟩)
    (cc_dlaw : PySem.W.codeIn K cd_dlaw "law" = true)
    (k_dlaw : PySem.W.keepIn K (.ref f_dlaw) = true)
    (g_dref : PySem.W.nsIn K mainGlobals "_law_refusal" = some (some (.ref f_dref)))
    (l_dref : K.lookup f_dref = some ⟨oc_dref, od_dref, .func (PySem.W.fnOf "_law_refusal" "_law_refusal" (defArgs s__law_refusal) (defBody s__law_refusal) (defScope s__law_refusal) .none kv_dref dc_dref pm_dref an_dref cd_dref ct_dref), sl_dref⟩)
    (cc_dref : PySem.W.codeIn K cd_dref "_law_refusal" = true)
    (k_dref : PySem.W.keepIn K (.ref f_dref) = true)
    (g_derr : PySem.W.findIn K (.ref c_BadBoard) "__init__" = some (some (.ref f_derr)))
    (l_derr : K.lookup f_derr = some ⟨oc_derr, od_derr, .func (PySem.W.fnOf "__init__" "WireError.__init__" (defArgs s_err) (defBody s_err) (defScope s_err) .none kv_derr dc_derr pm_derr an_derr cd_derr ct_derr), sl_derr⟩)
    (cc_derr : PySem.W.codeIn K cd_derr "WireError.__init__" = true)
    (k_derr : PySem.W.keepIn K (.ref f_derr) = true)
    (ti_derr : PySem.W.typeIn K (.ref f_derr) = some (.type "function"))
    (d_DOT : PySem.W.nsIn K mainGlobals "DOT" = some (some (.str "o" t_DOT)))
    (d_LONGEST : PySem.W.nsIn K mainGlobals "LONGEST" = some (some (.int 10 t_LONGEST)))
    (d_NO_DOT : PySem.W.nsIn K mainGlobals "NO_DOT" = some (some (.str "." t_NO_DOT)))
    (z_abs : PySem.W.nsIn K mainGlobals "abs" = some none)
    (z_all : PySem.W.nsIn K mainGlobals "all" = some none)
    (z_int : PySem.W.nsIn K mainGlobals "int" = some none)
    (z_isinstance : PySem.W.nsIn K mainGlobals "isinstance" = some none)
    (z_len : PySem.W.nsIn K mainGlobals "len" = some none)
    (z_list : PySem.W.nsIn K mainGlobals "list" = some none)
    (z_max : PySem.W.nsIn K mainGlobals "max" = some none)
    (z_min : PySem.W.nsIn K mainGlobals "min" = some none)
    (z_range : PySem.W.nsIn K mainGlobals "range" = some none)
    (z_repr : PySem.W.nsIn K mainGlobals "repr" = some none)
    (z_str : PySem.W.nsIn K mainGlobals "str" = some none)
    (z_tuple : PySem.W.nsIn K mainGlobals "tuple" = some none)
    (cn : PySem.W.specialIn K (.builtin "object.__class__") "__get__" = some (some (.builtin "getset_descriptor.__get__")))
    (ct : PySem.W.takesIn K (.builtin "object.__class__") = some true)
    (pg_Board : PySem.W.plainGet K c_Board Str.empty = true)
    (hd_Board : PySem.W.hasDictIn K c_Board = true)
    (po_Board : PySem.W.plainOver K c_Board = true)
    (sa_Board : PySem.W.findIn K (.ref c_Board) "__setattr__" = some (some (.builtin "object.__setattr__")))
    (mk_Board : PySem.W.makesIn K c_Board = true)
    (kc_Board : PySem.W.keepIn K (.ref c_Board) = true)
    (ca_Board : PySem.W.findIn K (.ref c_Board) "__class__" = some (some (.builtin "object.__class__")))
    (cm_Board : PySem.W.mroIn K c_Board (.type "object") = some true)
    (n_dots_Board : PySem.W.findIn K (.ref c_Board) "dots" = some none)
    (n_height_Board : PySem.W.findIn K (.ref c_Board) "height" = some none)
    (n_is_full_Board : PySem.W.findIn K (.ref c_Board) "is_full" = some none)
    (n_rows_Board : PySem.W.findIn K (.ref c_Board) "rows" = some none)
    (n_width_Board : PySem.W.findIn K (.ref c_Board) "width" = some none)
    (n_wires_Board : PySem.W.findIn K (.ref c_Board) "wires" = some none)
    (o_str_Board : PySem.W.mroIn K c_Board (.type "str") = some false)
    (o_tuple_Board : PySem.W.mroIn K c_Board (.type "tuple") = some false)
    (ic_BadBoard : PySem.W.isClsIn K c_BadBoard = true)
    (tc_BadBoard : PySem.W.typeIn K (.ref c_BadBoard) = some (.type "type"))
    (ex_BadBoard : PySem.W.subIn K (.ref c_BadBoard) (.type "BaseException") = some true)
    (ic_BadRows : PySem.W.isClsIn K c_BadRows = true)
    (tc_BadRows : PySem.W.typeIn K (.ref c_BadRows) = some (.type "type"))
    (ex_BadRows : PySem.W.subIn K (.ref c_BadRows) (.type "BaseException") = some true)
    (ic_WireError : PySem.W.isClsIn K c_WireError = true)
    (tc_WireError : PySem.W.typeIn K (.ref c_WireError) = some (.type "type"))
    (ex_WireError : PySem.W.subIn K (.ref c_WireError) (.type "BaseException") = some true)
    (x_BadBoard : K.lookup c_BadBoard = some (excClassObj nm_BadBoard q_BadBoard c_BadBoard N_BadBoard bs_BadBoard bm_BadBoard true sn_BadBoard sub_BadBoard ab_BadBoard col_BadBoard dd_BadBoard m0_BadBoard m1_BadBoard m2_BadBoard m3_BadBoard m5_BadBoard "ValueError.__new__"))
    (r_BadBoard : PySem.HandSPX.refsVE bm_BadBoard = true)
    (sa_BadBoard : PySem.W.findIn K (.ref c_BadBoard) "__setattr__" = some (some (.builtin "object.__setattr__")))
    (kc_BadBoard : PySem.W.keepIn K (.ref c_BadBoard) = true)
    (nv_BadBoard : PySem.W.findIn K (.ref c_BadBoard) "value" = some none)
    (ga_BadBoard : PySem.W.findIn K (.ref c_BadBoard) "__getattribute__" = some (some (.builtin "BaseException.__getattribute__")))
    (gg_BadBoard : PySem.W.findIn K (.ref c_BadBoard) "__getattr__" = some none)
    (hd_BadBoard : PySem.W.hasDictIn K c_BadBoard = true)
    (ca_BadBoard : PySem.W.findIn K (.ref c_BadBoard) "__class__" = some (some (.builtin "object.__class__")))
    (cm_BadBoard : PySem.W.mroIn K c_BadBoard (.type "object") = some true)
    (sw_BadBoard : PySem.W.subIn K (.ref c_BadBoard) (.ref c_WireError) = some true)
    (sb_BadBoard_BadRows : PySem.W.subIn K (.ref c_BadBoard) (.ref c_BadRows) = some false)
    (ne_BadBoard_BadRows : decide (c_BadBoard = c_BadRows) = false)
    (x_BadRows : K.lookup c_BadRows = some (excClassObj nm_BadRows q_BadRows c_BadRows N_BadRows bs_BadRows bm_BadRows true sn_BadRows sub_BadRows ab_BadRows col_BadRows dd_BadRows m0_BadRows m1_BadRows m2_BadRows m3_BadRows m5_BadRows "ValueError.__new__"))
    (r_BadRows : PySem.HandSPX.refsVE bm_BadRows = true)
    (sa_BadRows : PySem.W.findIn K (.ref c_BadRows) "__setattr__" = some (some (.builtin "object.__setattr__")))
    (kc_BadRows : PySem.W.keepIn K (.ref c_BadRows) = true)
    (nv_BadRows : PySem.W.findIn K (.ref c_BadRows) "value" = some none)
    (ii_BadRows : PySem.W.findIn K (.ref c_BadRows) "__init__" = some (some (.ref f_derr)))
    (ga_BadRows : PySem.W.findIn K (.ref c_BadRows) "__getattribute__" = some (some (.builtin "BaseException.__getattribute__")))
    (gg_BadRows : PySem.W.findIn K (.ref c_BadRows) "__getattr__" = some none)
    (hd_BadRows : PySem.W.hasDictIn K c_BadRows = true)
    (ca_BadRows : PySem.W.findIn K (.ref c_BadRows) "__class__" = some (some (.builtin "object.__class__")))
    (cm_BadRows : PySem.W.mroIn K c_BadRows (.type "object") = some true)
    (sw_BadRows : PySem.W.subIn K (.ref c_BadRows) (.ref c_WireError) = some true)
    (sb_BadRows_BadBoard : PySem.W.subIn K (.ref c_BadRows) (.ref c_BadBoard) = some false)
    (ne_BadRows_BadBoard : decide (c_BadRows = c_BadBoard) = false) :
    LawG l w K 9 63 "_law_script" mg fa h := by
  have ee := hfa.symm.trans (PySem.W.mg_of X G g_dlaw)
  cases ee
  let A : Adr := mkA c_Board c_BadBoard c_BadRows c_WireError
  have a_Board : A.a "Board" = c_Board := mkA_Board
  have a_BadBoard : A.a "BadBoard" = c_BadBoard := mkA_BadBoard
  have a_BadRows : A.a "BadRows" = c_BadRows := mkA_BadRows
  have a_WireError : A.a "WireError" = c_WireError := mkA_WireError
  have hkn : ∀ C, A.kn C = true → C = c_Board := fun C z => by simpa [A, mkA] using z
  have hke : ∀ C, A.ke C = true → C = c_BadBoard ∨ C = c_BadRows := fun C z => by simpa [A, mkA, or_assoc] using z
  have cls_Board : ClsK K c_Board := ⟨⟨pg_Board, hd_Board, po_Board, sa_Board⟩, ca_Board, cn, ct, cm_Board⟩
  have oex_BadBoard : OexC K c_BadBoard := ⟨⟨_, _, _, _, _, _, _, _, _, _, _, _, _, _, _, x_BadBoard, r_BadBoard⟩, sa_BadBoard, ex_BadBoard, tc_BadBoard, kc_BadBoard⟩
  have er_BadBoard : ErrC K c_BadBoard f_derr := ⟨oex_BadBoard, nv_BadBoard, g_derr, ti_derr, ga_BadBoard, gg_BadBoard, hd_BadBoard, ca_BadBoard, cn, ct, cm_BadBoard⟩
  have oex_BadRows : OexC K c_BadRows := ⟨⟨_, _, _, _, _, _, _, _, _, _, _, _, _, _, _, x_BadRows, r_BadRows⟩, sa_BadRows, ex_BadRows, tc_BadRows, kc_BadRows⟩
  have er_BadRows : ErrC K c_BadRows f_derr := ⟨oex_BadRows, nv_BadRows, ii_BadRows, ti_derr, ga_BadRows, gg_BadRows, hd_BadRows, ca_BadRows, cn, ct, cm_BadRows⟩
  have T : Txt K mg A := ⟨(PySem.W.mg_none_of X G z_abs),
    (PySem.W.mg_none_of X G z_all),
    (PySem.W.mg_none_of X G z_int),
    (PySem.W.mg_none_of X G z_isinstance),
    (PySem.W.mg_none_of X G z_len),
    (PySem.W.mg_none_of X G z_list),
    (PySem.W.mg_none_of X G z_max),
    (PySem.W.mg_none_of X G z_min),
    (PySem.W.mg_none_of X G z_range),
    (PySem.W.mg_none_of X G z_repr),
    (PySem.W.mg_none_of X G z_str),
    (PySem.W.mg_none_of X G z_tuple),
    (⟨t_DOT, PySem.W.mg_of X G d_DOT⟩),
    (⟨t_LONGEST, PySem.W.mg_of X G d_LONGEST⟩),
    (⟨t_NO_DOT, PySem.W.mg_of X G d_NO_DOT⟩),
    (isi_er (A := A) (n := "BadBoard") (fun C z => by rcases hke C z with rfl | rfl <;> first | exact ⟨kit_me (a_BadBoard) (by decide), _, er_BadBoard⟩ | exact ⟨kit_err (ic_BadBoard) (tc_BadBoard) ne_BadRows_BadBoard sb_BadRows_BadBoard a_BadBoard (by decide), _, er_BadRows⟩) (by rw [a_BadBoard]; exact kit_seven ic_BadBoard tc_BadBoard)),
    (by rw [a_BadBoard]; exact PySem.W.mg_of X G g_BadBoard),
    (isi_er (A := A) (n := "BadRows") (fun C z => by rcases hke C z with rfl | rfl <;> first | exact ⟨kit_err (ic_BadRows) (tc_BadRows) ne_BadBoard_BadRows sb_BadBoard_BadRows a_BadRows (by decide), _, er_BadBoard⟩ | exact ⟨kit_me (a_BadRows) (by decide), _, er_BadRows⟩) (by rw [a_BadRows]; exact kit_seven ic_BadRows tc_BadRows)),
    (by rw [a_BadRows]; exact PySem.W.mg_of X G g_BadRows),
    (isi_ty (A := A) (fun C z => by obtain rfl := hkn C z; exact ⟨kit_out m_str o_str_Board, cls_Board⟩) (prim_str (K := K))),
    (isi_ty (A := A) (fun C z => by obtain rfl := hkn C z; exact ⟨kit_out m_tuple o_tuple_Board, cls_Board⟩) (prim_tuple (K := K))),
    (fields_of (A := A) (fun C z => by obtain rfl := hkn C z; exact ⟨cls_Board.cl, n_dots_Board⟩)),
    (fields_of (A := A) (fun C z => by obtain rfl := hkn C z; exact ⟨cls_Board.cl, n_height_Board⟩)),
    (fields_of (A := A) (fun C z => by obtain rfl := hkn C z; exact ⟨cls_Board.cl, n_width_Board⟩)),
    (fun C z => by obtain rfl := hkn C z; exact ⟨cls_Board.cl, n_dots_Board⟩),
    (fun C z => by obtain rfl := hkn C z; exact ⟨cls_Board.cl, n_height_Board⟩),
    (fun C z => by obtain rfl := hkn C z; exact ⟨cls_Board.cl, n_is_full_Board⟩),
    (fun C z => by obtain rfl := hkn C z; exact ⟨cls_Board.cl, n_rows_Board⟩),
    (fun C z => by obtain rfl := hkn C z; exact ⟨cls_Board.cl, n_width_Board⟩),
    (fun C z => by obtain rfl := hkn C z; exact ⟨cls_Board.cl, n_wires_Board⟩),
    (fun C z => by rcases hke C z with rfl | rfl <;> first | exact ⟨⟨ga_BadBoard, gg_BadBoard, ex_BadBoard, hd_BadBoard⟩, nv_BadBoard⟩ | exact ⟨⟨ga_BadRows, gg_BadRows, ex_BadRows, hd_BadRows⟩, nv_BadRows⟩),
    (by rw [a_WireError]; exact fun C z => by rcases hke C z with rfl | rfl <;> first | exact exm_of ex_WireError ic_WireError tc_WireError sw_BadBoard | exact exm_of ex_WireError ic_WireError tc_WireError sw_BadRows)⟩
  have F_d_law_take := fun_mk (st := s__law_take) l_d_law_take cc_d_law_take k_d_law_take
  have b_d_law_take := F_d_law_take.binds (ps := ["_law_pot_here", "_law_upto"]) fun _ _ _ _ _ _ us hl => match us, hl with | [_, _], _ => rfl
  have F_d_law_size := fun_mk (st := s__law_size) l_d_law_size cc_d_law_size k_d_law_size
  have b_d_law_size := F_d_law_size.binds (ps := ["_law_pot_here", "_law_most"]) fun _ _ _ _ _ _ us hl => match us, hl with | [_, _], _ => rfl
  have F_d_law_rows := fun_mk (st := s__law_rows) l_d_law_rows cc_d_law_rows k_d_law_rows
  have b_d_law_rows := F_d_law_rows.binds (ps := ["_law_pot_here", "_law_tall", "_law_wide"]) fun _ _ _ _ _ _ us hl => match us, hl with | [_, _, _], _ => rfl
  have F_d_law_small_rows := fun_mk (st := s__law_small_rows) l_d_law_small_rows cc_d_law_small_rows k_d_law_small_rows
  have b_d_law_small_rows := F_d_law_small_rows.binds (ps := ["_law_pot_here", "_law_most"]) fun _ _ _ _ _ _ us hl => match us, hl with | [_, _], _ => rfl
  have F_d_law_of := fun_mk (st := s__law_of) l_d_law_of cc_d_law_of k_d_law_of
  have b_d_law_of := F_d_law_of.binds (ps := ["_law_pot_here", "_law_some"]) fun _ _ _ _ _ _ us hl => match us, hl with | [_, _], _ => rfl
  have F_d_law_odd := fun_mk (st := s__law_odd) l_d_law_odd cc_d_law_odd k_d_law_odd
  have b_d_law_odd := F_d_law_odd.binds (ps := ["_law_pot_here"]) fun _ _ _ _ _ _ us hl => match us, hl with | [_], _ => rfl
  have F_d_law_spoilt := fun_mk (st := s__law_spoilt) l_d_law_spoilt cc_d_law_spoilt k_d_law_spoilt
  have b_d_law_spoilt := F_d_law_spoilt.binds (ps := ["_law_pot_here", "_law_value"]) fun _ _ _ _ _ _ us hl => match us, hl with | [_, _], _ => rfl
  have F_d_law_bent_rows := fun_mk (st := s__law_bent_rows) l_d_law_bent_rows cc_d_law_bent_rows k_d_law_bent_rows
  have b_d_law_bent_rows := F_d_law_bent_rows.binds (ps := ["_law_pot_here", "_law_rows_here"]) fun _ _ _ _ _ _ us hl => match us, hl with | [_, _], _ => rfl
  have F_d_none_is_empty := fun_mk (st := s__none_is_empty) l_d_none_is_empty cc_d_none_is_empty k_d_none_is_empty
  have b_d_none_is_empty := F_d_none_is_empty.binds (ps := ["rows"]) fun _ _ _ _ _ _ us hl => match us, hl with | [_], _ => rfl
  have F_d_turned := fun_mk (st := s__turned) l_d_turned cc_d_turned k_d_turned
  have b_d_turned := F_d_turned.binds (ps := ["rows"]) fun _ _ _ _ _ _ us hl => match us, hl with | [_], _ => rfl
  have F_d_is_row := fun_mk (st := s__is_row) l_d_is_row cc_d_is_row k_d_is_row
  have b_d_is_row := F_d_is_row.binds (ps := ["value"]) fun _ _ _ _ _ _ us hl => match us, hl with | [_], _ => rfl
  have F_d_are_rows := fun_mk (st := s__are_rows) l_d_are_rows cc_d_are_rows k_d_are_rows
  have b_d_are_rows := F_d_are_rows.binds (ps := ["value"]) fun _ _ _ _ _ _ us hl => match us, hl with | [_], _ => rfl
  have F_d_dots_of := fun_mk (st := s__dots_of) l_d_dots_of cc_d_dots_of k_d_dots_of
  have b_d_dots_of := F_d_dots_of.binds (ps := ["rows"]) fun _ _ _ _ _ _ us hl => match us, hl with | [_], _ => rfl
  have F_d_wires_of := fun_mk (st := s__wires_of) l_d_wires_of cc_d_wires_of k_d_wires_of
  have b_d_wires_of := F_d_wires_of.binds (ps := ["rows"]) fun _ _ _ _ _ _ us hl => match us, hl with | [_], _ => rfl
  have F_dBoard___init__ := fun_mk (st := s_Board___init__) l_dBoard___init__ cc_dBoard___init__ k_dBoard___init__
  have b_dBoard___init__ := F_dBoard___init__.binds (ps := ["self", "rows"]) fun _ _ _ _ _ _ us hl => match us, hl with | [_, _], _ => rfl
  have F_d_law_are_rows := fun_mk (st := s__law_are_rows) l_d_law_are_rows cc_d_law_are_rows k_d_law_are_rows
  have b_d_law_are_rows := F_d_law_are_rows.binds (ps := ["_law_value"]) fun _ _ _ _ _ _ us hl => match us, hl with | [_], _ => rfl
  have b_d_law_is_judged := (fun_mk (st := s__law_is_judged) l_d_law_is_judged cc_d_law_is_judged k_d_law_is_judged).binds (ps := ["_law_value"]) fun _ _ _ _ _ _ us hl => match us, hl with | [_], _ => rfl
  have F_d_law_right := fun_mk (st := s__law_right) l_d_law_right cc_d_law_right k_d_law_right
  have b_d_law_right := F_d_law_right.binds (ps := ["_law_pot_here"]) fun _ _ _ _ _ _ us hl => match us, hl with | [_], _ => rfl
  have F_d_law_pot := fun_mk (st := s__law_pot) l_d_law_pot cc_d_law_pot k_d_law_pot
  have b_d_law_pot := F_d_law_pot.binds (ps := ["_law_script", "_law_number"]) fun _ _ _ _ _ _ us hl => match us, hl with | [_, _], _ => rfl
  have F_dlaw := fun_mk (st := s_law) l_dlaw cc_dlaw k_dlaw
  have b_dlaw := F_dlaw.binds (ps := ["_law_script"]) fun _ _ _ _ _ _ us hl => match us, hl with | [_], _ => rfl
  have b_dref := (fun_mk (st := s__law_refusal) l_dref cc_dref k_dref).binds (ps := ["_law_look"]) fun _ _ _ _ _ _ us hl => match us, hl with | [_], _ => rfl
  have R : RefD K mg A f_dref oc_dref .none kv_dref dc_dref pm_dref cd_dref ct_dref an_dref od_dref sl_dref s__law_refusal := ⟨PySem.W.mg_of X G g_dref, k_dref, l_dref, cc_dref, b_dref, by rw [a_WireError]; exact PySem.W.mg_of X G g_WireError⟩
  have F_derr := fun_mk (st := s_err) l_derr cc_derr k_derr
  have b_derr := F_derr.binds (ps := ["self", "value"]) fun _ _ _ _ _ _ us hl => match us, hl with | [_, _], _ => rfl
  letI tab : Tab := ⟨[((Pt_d_law_is_judged, (PyProof.Rows.envOfC "_law_is_judged" (defScope s__law_is_judged) 0 f_d_law_is_judged (.ref cd_d_law_is_judged)).qual ++ "<lambda>") : Addr × Str)]⟩
  refine ⟨PySem.W.fnOf "law" "law" (defArgs s_law) (defBody s_law) (defScope s_law) .none kv_dlaw dc_dlaw pm_dlaw an_dlaw cd_dlaw ct_dlaw, [(cd_d_law_is_judged, Pt_d_law_is_judged)], @spX tab (m_law A), fun p hp => ?_, fun p hp => ?_, fun p hp => ?_, fun s v => .of_eq rfl, fun H a ns hn hT hO hS => prom_law rfl (hT _ (List.mem_singleton.mpr rfl)) hO hS (math ?_ ns hn), fun base _ _ hTB => ?_⟩
  · rw [List.mem_singleton.mp hp]; exact tb_d_law_is_judged
  · rw [List.mem_singleton.mp hp]; exact nt_d_law_is_judged
  · rw [List.mem_singleton.mp hp]; exact PySem.W.codeHd_of_K X hh_d_law_is_judged
  · exact ⟨by rw [a_Board]; simp [A, mkA], by rw [a_BadBoard]; simp [A, mkA], by rw [a_BadRows]; simp [A, mkA], by rw [a_BadBoard, a_BadRows]; exact of_decide_eq_false ne_BadBoard_BadRows, by rw [a_BadRows, a_BadBoard]; exact of_decide_eq_false ne_BadRows_BadBoard⟩
  have TB := hTB _ (List.mem_singleton.mpr rfl)
  have okE : FnOk l.prog w K mg base CX0 1 f_derr _ ["self", "value"] (spErr K) := ok_err F_derr
  have C_BadBoard : CalE l.prog w K mg base "BadBoard" (A.a "BadBoard") f_derr _ := ⟨by rw [a_BadBoard]; exact er_BadBoard, okE, by rw [a_BadBoard]; exact PySem.W.mg_of X G g_BadBoard, b_derr⟩
  have C_BadRows : CalE l.prog w K mg base "BadRows" (A.a "BadRows") f_derr _ := ⟨by rw [a_BadRows]; exact er_BadRows, okE, by rw [a_BadRows]; exact PySem.W.mg_of X G g_BadRows, b_derr⟩
  have C__law_take : Cal l.prog w K mg base CX0 1 "_law_take" f_d_law_take _ ["_law_pot_here", "_law_upto"] (spY (m__law_take A)) := ⟨ok__law_take F_d_law_take T , PySem.W.mg_of X G g_d_law_take, k_d_law_take, b_d_law_take⟩
  have C__law_size : Cal l.prog w K mg base CX0 2 "_law_size" f_d_law_size _ ["_law_pot_here", "_law_most"] (spY (m__law_size A)) := ⟨ok__law_size F_d_law_size T C__law_take, PySem.W.mg_of X G g_d_law_size, k_d_law_size, b_d_law_size⟩
  have C__law_rows : Cal l.prog w K mg base CX0 2 "_law_rows" f_d_law_rows _ ["_law_pot_here", "_law_tall", "_law_wide"] (spY (m__law_rows A)) := ⟨ok__law_rows F_d_law_rows T C__law_take, PySem.W.mg_of X G g_d_law_rows, k_d_law_rows, b_d_law_rows⟩
  have C__law_small_rows : Cal l.prog w K mg base CX0 3 "_law_small_rows" f_d_law_small_rows _ ["_law_pot_here", "_law_most"] (spY (m__law_small_rows A)) := ⟨ok__law_small_rows F_d_law_small_rows T C__law_size C__law_rows, PySem.W.mg_of X G g_d_law_small_rows, k_d_law_small_rows, b_d_law_small_rows⟩
  have C__law_of : Cal l.prog w K mg base CX0 2 "_law_of" f_d_law_of _ ["_law_pot_here", "_law_some"] (spY (m__law_of A)) := ⟨ok__law_of F_d_law_of T C__law_take, PySem.W.mg_of X G g_d_law_of, k_d_law_of, b_d_law_of⟩
  have C__law_odd : Cal l.prog w K mg base CX0 3 "_law_odd" f_d_law_odd _ ["_law_pot_here"] (spY (m__law_odd A)) := ⟨ok__law_odd F_d_law_odd T C__law_of, PySem.W.mg_of X G g_d_law_odd, k_d_law_odd, b_d_law_odd⟩
  have C__law_spoilt : Cal l.prog w K mg base CX0 4 "_law_spoilt" f_d_law_spoilt _ ["_law_pot_here", "_law_value"] (spY (m__law_spoilt A)) := ⟨ok__law_spoilt F_d_law_spoilt T C__law_take C__law_odd C__law_of, PySem.W.mg_of X G g_d_law_spoilt, k_d_law_spoilt, b_d_law_spoilt⟩
  have C__law_bent_rows : Cal l.prog w K mg base CX0 5 "_law_bent_rows" f_d_law_bent_rows _ ["_law_pot_here", "_law_rows_here"] (spY (m__law_bent_rows A)) := ⟨ok__law_bent_rows F_d_law_bent_rows T C__law_take C__law_spoilt C__law_of, PySem.W.mg_of X G g_d_law_bent_rows, k_d_law_bent_rows, b_d_law_bent_rows⟩
  have C__none_is_empty : Cal l.prog w K mg base CX0 1 "_none_is_empty" f_d_none_is_empty _ ["rows"] (spX (m__none_is_empty A)) := ⟨ok__none_is_empty F_d_none_is_empty T , PySem.W.mg_of X G g_d_none_is_empty, k_d_none_is_empty, b_d_none_is_empty⟩
  have C__turned : Cal l.prog w K mg base CX0 1 "_turned" f_d_turned _ ["rows"] (spX (m__turned A)) := ⟨ok__turned F_d_turned T , PySem.W.mg_of X G g_d_turned, k_d_turned, b_d_turned⟩
  have C__is_row : Cal l.prog w K mg base CX0 1 "_is_row" f_d_is_row _ ["value"] (spX (m__is_row A)) := ⟨ok__is_row F_d_is_row T , PySem.W.mg_of X G g_d_is_row, k_d_is_row, b_d_is_row⟩
  have C__are_rows : Cal l.prog w K mg base CX0 2 "_are_rows" f_d_are_rows _ ["value"] (spX (m__are_rows A)) := ⟨ok__are_rows F_d_are_rows T C__is_row, PySem.W.mg_of X G g_d_are_rows, k_d_are_rows, b_d_are_rows⟩
  have C__dots_of : Cal l.prog w K mg base CX0 1 "_dots_of" f_d_dots_of _ ["rows"] (spX (m__dots_of A)) := ⟨ok__dots_of F_d_dots_of T , PySem.W.mg_of X G g_d_dots_of, k_d_dots_of, b_d_dots_of⟩
  have C__wires_of : Cal l.prog w K mg base CX0 1 "_wires_of" f_d_wires_of _ ["rows"] (spX (m__wires_of A)) := ⟨ok__wires_of F_d_wires_of T , PySem.W.mg_of X G g_d_wires_of, k_d_wires_of, b_d_wires_of⟩
  have C_Board : CalC l.prog w K mg base (L2.CX l.prog w) 3 "Board" (A.a "Board") f_dBoard___init__ _ ["self", "rows"] [] (spW (A.a "Board") (m_Board___init__ A)) := ⟨by rw [a_Board]; exact ⟨mk_Board, g_dBoard___init__, i_dBoard___init__, kc_Board⟩, ok_Board___init__ F_dBoard___init__ T C__none_is_empty C__turned C__are_rows C_BadBoard C__dots_of C__wires_of, by rw [a_Board]; exact PySem.W.mg_of X G g_Board, b_dBoard___init__⟩
  have C__law_are_rows : Cal l.prog w K mg base CX0 1 "_law_are_rows" f_d_law_are_rows _ ["_law_value"] (spX (m__law_are_rows A)) := ⟨ok__law_are_rows F_d_law_are_rows T , PySem.W.mg_of X G g_d_law_are_rows, k_d_law_are_rows, b_d_law_are_rows⟩
  have C__law_is_judged : CalG l.prog w K mg base 7 "_law_is_judged" f_d_law_is_judged _ ["_law_value"] (spX (m__law_is_judged A)) := ⟨ok__law_is_judged l_d_law_is_judged cc_d_law_is_judged TB (List.mem_singleton.mpr rfl) (fun p hp _ => by rw [List.mem_singleton.mp hp]) R T C_Board C__law_are_rows, PySem.W.mg_of X G g_d_law_is_judged, k_d_law_is_judged, b_d_law_is_judged⟩
  have C__law_right : CalG l.prog w K mg base 8 "_law_right" f_d_law_right _ ["_law_pot_here"] (spY (m__law_right A)) := ⟨ok__law_right F_d_law_right T C__law_small_rows C__law_of C__law_bent_rows C__law_take C__law_is_judged C__law_odd, PySem.W.mg_of X G g_d_law_right, k_d_law_right, b_d_law_right⟩
  have C__law_pot : Cal l.prog w K mg base CX0 1 "_law_pot" f_d_law_pot _ ["_law_script", "_law_number"] (spZ (m__law_pot A)) := ⟨ok__law_pot F_d_law_pot T , PySem.W.mg_of X G g_d_law_pot, k_d_law_pot, b_d_law_pot⟩
  exact ok_law F_dlaw T C__law_right C__law_pot
end L02
open PySem PySem.W PyProof.Rows
set_option maxRecDepth 100000 in
set_option maxHeartbeats 0 in
theorem PySem.Challenge.cw_wiresindark_k02_boards_refused_holds : PySem.Challenge.rw_wiresindark_k02_boards_refused.Holds := by
  w_on; o_law; k_head; (case hw => w_witness2)
  k_fill
  refine Wd.walk_GT (l := PySem.Challenge.rw_wiresindark_k02_boards_refused) (n := 63) (k := 9) (x := "_law_script") rfl (by decide) rfl ⟨rfl, by decide, by decide⟩ (fun w h Y => PySem.W.km_in_of Y) ?B ?F
  case B => intro w; exact L02.all_look (by kernel_rfl)
  case F =>
    intro w mg fa h Y KX G hmg
    refine' L02.all_mk KX G hmg ?g_Board ?g_BadBoard ?g_BadRows ?g_WireError ?g_d_law_take ?l_d_law_take ?cc_d_law_take ?k_d_law_take ?g_d_law_size ?l_d_law_size ?cc_d_law_size ?k_d_law_size ?g_d_law_rows ?l_d_law_rows ?cc_d_law_rows ?k_d_law_rows ?g_d_law_small_rows ?l_d_law_small_rows ?cc_d_law_small_rows ?k_d_law_small_rows ?g_d_law_of ?l_d_law_of ?cc_d_law_of ?k_d_law_of ?g_d_law_odd ?l_d_law_odd ?cc_d_law_odd ?k_d_law_odd ?g_d_law_spoilt ?l_d_law_spoilt ?cc_d_law_spoilt ?k_d_law_spoilt ?g_d_law_bent_rows ?l_d_law_bent_rows ?cc_d_law_bent_rows ?k_d_law_bent_rows ?g_d_none_is_empty ?l_d_none_is_empty ?cc_d_none_is_empty ?k_d_none_is_empty ?g_d_turned ?l_d_turned ?cc_d_turned ?k_d_turned ?g_d_is_row ?l_d_is_row ?cc_d_is_row ?k_d_is_row ?g_d_are_rows ?l_d_are_rows ?cc_d_are_rows ?k_d_are_rows ?g_d_dots_of ?l_d_dots_of ?cc_d_dots_of ?k_d_dots_of ?g_d_wires_of ?l_d_wires_of ?cc_d_wires_of ?k_d_wires_of ?g_dBoard___init__ ?i_dBoard___init__ ?l_dBoard___init__ ?cc_dBoard___init__ ?k_dBoard___init__ ?g_d_law_are_rows ?l_d_law_are_rows ?cc_d_law_are_rows ?k_d_law_are_rows ?g_d_law_is_judged ?l_d_law_is_judged ?cc_d_law_is_judged ?k_d_law_is_judged ?lc_d_law_is_judged ?hp_d_law_is_judged ?hh_d_law_is_judged ?nt_d_law_is_judged ?tb_d_law_is_judged ?g_d_law_right ?l_d_law_right ?cc_d_law_right ?k_d_law_right ?g_d_law_pot ?l_d_law_pot ?cc_d_law_pot ?k_d_law_pot ?g_dlaw ?l_dlaw ?cc_dlaw ?k_dlaw ?g_dref ?l_dref ?cc_dref ?k_dref ?g_derr ?l_derr ?cc_derr ?k_derr ?ti_derr ?d_DOT ?d_LONGEST ?d_NO_DOT ?z_abs ?z_all ?z_int ?z_isinstance ?z_len ?z_list ?z_max ?z_min ?z_range ?z_repr ?z_str ?z_tuple ?cn ?ct ?pg_Board ?hd_Board ?po_Board ?sa_Board ?mk_Board ?kc_Board ?ca_Board ?cm_Board ?n_dots_Board ?n_height_Board ?n_is_full_Board ?n_rows_Board ?n_width_Board ?n_wires_Board ?o_str_Board ?o_tuple_Board ?ic_BadBoard ?tc_BadBoard ?ex_BadBoard ?ic_BadRows ?tc_BadRows ?ex_BadRows ?ic_WireError ?tc_WireError ?ex_WireError ?x_BadBoard ?r_BadBoard ?sa_BadBoard ?kc_BadBoard ?nv_BadBoard ?ga_BadBoard ?gg_BadBoard ?hd_BadBoard ?ca_BadBoard ?cm_BadBoard ?sw_BadBoard ?sb_BadBoard_BadRows ?ne_BadBoard_BadRows ?x_BadRows ?r_BadRows ?sa_BadRows ?kc_BadRows ?nv_BadRows ?ii_BadRows ?ga_BadRows ?gg_BadRows ?hd_BadRows ?ca_BadRows ?cm_BadRows ?sw_BadRows ?sb_BadRows_BadBoard ?ne_BadRows_BadBoard
    (case g_Board => k_is); (case g_BadBoard => k_is); (case g_BadRows => k_is); (case g_WireError => k_is); (case g_d_law_take => k_is); (case l_d_law_take => k_is)
    (case cc_d_law_take => k_is); (case k_d_law_take => k_is); (case g_d_law_size => k_is); (case l_d_law_size => k_is); (case cc_d_law_size => k_is); (case k_d_law_size => k_is)
    (case g_d_law_rows => k_is); (case l_d_law_rows => k_is); (case cc_d_law_rows => k_is); (case k_d_law_rows => k_is); (case g_d_law_small_rows => k_is); (case l_d_law_small_rows => k_is)
    (case cc_d_law_small_rows => k_is); (case k_d_law_small_rows => k_is); (case g_d_law_of => k_is); (case l_d_law_of => k_is); (case cc_d_law_of => k_is); (case k_d_law_of => k_is)
    (case g_d_law_odd => k_is); (case l_d_law_odd => k_is); (case cc_d_law_odd => k_is); (case k_d_law_odd => k_is); (case g_d_law_spoilt => k_is); (case l_d_law_spoilt => k_is)
    (case cc_d_law_spoilt => k_is); (case k_d_law_spoilt => k_is); (case g_d_law_bent_rows => k_is); (case l_d_law_bent_rows => k_is); (case cc_d_law_bent_rows => k_is); (case k_d_law_bent_rows => k_is)
    (case g_d_none_is_empty => k_is); (case l_d_none_is_empty => k_is); (case cc_d_none_is_empty => k_is); (case k_d_none_is_empty => k_is); (case g_d_turned => k_is); (case l_d_turned => k_is)
    (case cc_d_turned => k_is); (case k_d_turned => k_is); (case g_d_is_row => k_is); (case l_d_is_row => k_is); (case cc_d_is_row => k_is); (case k_d_is_row => k_is)
    (case g_d_are_rows => k_is); (case l_d_are_rows => k_is); (case cc_d_are_rows => k_is); (case k_d_are_rows => k_is); (case g_d_dots_of => k_is); (case l_d_dots_of => k_is)
    (case cc_d_dots_of => k_is); (case k_d_dots_of => k_is); (case g_d_wires_of => k_is); (case l_d_wires_of => k_is); (case cc_d_wires_of => k_is); (case k_d_wires_of => k_is)
    (case g_dBoard___init__ => k_is); (case i_dBoard___init__ => k_is); (case l_dBoard___init__ => k_is); (case cc_dBoard___init__ => k_is); (case k_dBoard___init__ => k_is); (case g_d_law_are_rows => k_is)
    (case l_d_law_are_rows => k_is); (case cc_d_law_are_rows => k_is); (case k_d_law_are_rows => k_is); (case g_d_law_is_judged => k_is); (case l_d_law_is_judged => k_is); (case cc_d_law_is_judged => k_is)
    (case k_d_law_is_judged => k_is); (case lc_d_law_is_judged => k_is); (case hp_d_law_is_judged => rfl); (case hh_d_law_is_judged => kernel_rfl); (case nt_d_law_is_judged => kernel_rfl); (case tb_d_law_is_judged => exact PySem.W.km_tabs_of Y _ (by simp))
    (case g_d_law_right => k_is); (case l_d_law_right => k_is); (case cc_d_law_right => k_is); (case k_d_law_right => k_is); (case g_d_law_pot => k_is); (case l_d_law_pot => k_is)
    (case cc_d_law_pot => k_is); (case k_d_law_pot => k_is); (case g_dlaw => k_is); (case l_dlaw => k_is); (case cc_dlaw => k_is); (case k_dlaw => k_is)
    (case g_dref => k_is); (case l_dref => k_is); (case cc_dref => k_is); (case k_dref => k_is); (case g_derr => k_is); (case l_derr => k_is)
    (case cc_derr => k_is); (case k_derr => k_is); (case ti_derr => k_is); (case d_DOT => k_is); (case d_LONGEST => k_is); (case d_NO_DOT => k_is)
    (case z_abs => k_is); (case z_all => k_is); (case z_int => k_is); (case z_isinstance => k_is); (case z_len => k_is); (case z_list => k_is)
    (case z_max => k_is); (case z_min => k_is); (case z_range => k_is); (case z_repr => k_is); (case z_str => k_is); (case z_tuple => k_is)
    (case cn => k_is); (case ct => k_is); (case pg_Board => k_is); (case hd_Board => k_is); (case po_Board => k_is); (case sa_Board => k_is)
    (case mk_Board => k_is); (case kc_Board => k_is); (case ca_Board => k_is); (case cm_Board => k_is); (case n_dots_Board => k_is); (case n_height_Board => k_is)
    (case n_is_full_Board => k_is); (case n_rows_Board => k_is); (case n_width_Board => k_is); (case n_wires_Board => k_is); (case o_str_Board => k_is); (case o_tuple_Board => k_is)
    (case ic_BadBoard => k_is); (case tc_BadBoard => k_is); (case ex_BadBoard => k_is); (case ic_BadRows => k_is); (case tc_BadRows => k_is); (case ex_BadRows => k_is)
    (case ic_WireError => k_is); (case tc_WireError => k_is); (case ex_WireError => k_is); (case x_BadBoard => k_is); (case r_BadBoard => rfl); (case sa_BadBoard => k_is)
    (case kc_BadBoard => k_is); (case nv_BadBoard => k_is); (case ga_BadBoard => k_is); (case gg_BadBoard => k_is); (case hd_BadBoard => k_is); (case ca_BadBoard => k_is)
    (case cm_BadBoard => k_is); (case sw_BadBoard => k_is); (case sb_BadBoard_BadRows => k_is); (case ne_BadBoard_BadRows => rfl); (case x_BadRows => k_is); (case r_BadRows => rfl)
    (case sa_BadRows => k_is); (case kc_BadRows => k_is); (case nv_BadRows => k_is); (case ii_BadRows => k_is); (case ga_BadRows => k_is); (case gg_BadRows => k_is)
    (case hd_BadRows => k_is); (case ca_BadRows => k_is); (case cm_BadRows => k_is); (case sw_BadRows => k_is); (case sb_BadRows_BadBoard => k_is); (case ne_BadRows_BadBoard => rfl)
