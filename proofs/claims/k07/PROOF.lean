import PyProof.Rows.All
import Wide.All
import OpenK.AllK
import Wide.FinOn
import HandS.ForMost
import HandS.Style
import HandS.Flow
import HandS.TupAny
import HandS.IsInst
import HandS.MakeKwOnly
import HandS.Defaults
import HandS.OwnEq
import HandS.Small
import HandS.Wide
import HandS.DeepEq
import HandS.Deep
import HandS.StrMore
import HandS.StrSplit
import HandS.FStr
import HandS.Evl
import PyProof.ListStr
import PyProof.ReprRoads
import HandS.Walk
import HandS.RaiseMore
import KE.GoesMore
import PyProof.StrLawsRepr
import PyProof.Rows.StrJoinMade
import PyProof.ReprLen
import KE.KCallOwn
import HandS.Star
import HandS.MakeKw
import HandS.ForExc
import HandS.ExcInit
import HandS.ExcField
import HandS.ExcIs
import HandS.WordsExc
import KE.KExcIs
import HandS.DictTup
import HandS.DictComp
import HandS.Finally
import HandS.ListItems
import HandS.DictEq
import HandS.TryOnly
import PySem.Challenge.RW_hookrow_k07_whole_calls_passed_in_any_wa
set_option Elab.async false
set_option maxRecDepth 100000
set_option maxHeartbeats  4000000
set_option linter.all false
namespace Ov
open PySem PySem.Spec PyProof.Rows L2

theorem pe_or {X : Cx} {e : Expr} {t u : TE} (h : PE X e t) (h' : PE X e u) : PE X e (fun σ H Q => t σ H Q ∨ u σ H Q) :=
  ⟨fun pins s σ H Q I q => q.elim (h.run pins s σ H Q I) (h'.run pins s σ H Q I)⟩
theorem pi_or {X : Cx} {tg e : Expr} {t u : TI} (h : PI X tg e t) (h' : PI X tg e u) : PI X tg e (fun σ H Q => t σ H Q ∨ u σ H Q) :=
  ⟨fun pins s σ H Q I q => q.elim (h.run pins s σ H Q I) (h'.run pins s σ H Q I)⟩
theorem pt_or {X : Cx} {e : Expr} {t u : TT} (h : PT X e t) (h' : PT X e u) : PT X e (fun σ H Q => t σ H Q ∨ u σ H Q) :=
  ⟨fun pins s σ H Q I q => q.elim (h.run pins s σ H Q I) (h'.run pins s σ H Q I)⟩

/-- a def that may be called by its name; nothing leaves it -/
structure Cal (P : Program) (w : World) (K : PySem.W.Frag) (mg : Str → Option Value) (base : Heap) (k : Nat) (x : Str) (sp : Sp) : Prop where
  ex : ∃ (f : Addr) (fd : FuncData) (ps : List Str), FnOk P w K mg base CX0 k f fd ps sp ∧ mg x = some (.ref f) ∧ PySem.W.keepIn K (.ref f) = true ∧ Binds K fd ps []
/-- a def of the module under its name -/
structure Df (K : PySem.W.Frag) (mg : Str → Option Value) (x : Str) (ps : List Str) (st : Stmt) (f : Addr) (fd : FuncData) : Prop where
  fn : Fun K x x st f fd
  mgf : mg x = some (.ref f)
  bd : Binds K fd ps []
theorem Df.cal {P : Program} {w : World} {K : PySem.W.Frag} {mg : Str → Option Value} {base : Heap} {x : Str} {st : Stmt} {f : Addr} {fd : FuncData} {N ps : List Str} {k : Nat} {sp : Sp} (F : Df K mg x ps st f fd) (S : FnScope N ps (defScope st)) (len : ∀ vs H Q E, sp vs H Q E → vs.length = ps.length)
    (hbody : ∀ (cdv : Value) (A : Around) (outer : List Env) (s : Shared) (H : Hp) (vs : List V) (Q : VK) (E : XK), Room k (A.deeper (envOfC x (defScope st) s.heap.objs.size f cdv)) → sp vs H Q E →
      ∃ t, PSs (cxOf CX0 P w K mg base N x (defScope st) f cdv A outer s H E).nox (defBody st) t ∧ t { nx := fun _ H' => Q .non H', rt := Q } (start N vs) H) : Cal P w K mg base (k + 1) x sp :=
  ⟨f, fd, ps, F.fn.ok S len hbody, F.mgf, F.fn.kp, F.bd⟩
section
variable {X : Cx} {k j : Nat} {C : Addr} {x m : Str} {sp : Sp} {p pos apos : Pos} {e o : Expr} {es : List Expr} {ta : TE} {t : TA}
theorem pe_c (c : Cal X.prog X.w X.K X.mg X.base k x sp) (hr : Room j X.A) (hk : k ≤ j) (hg : Gl X x) (ha : PA X (e :: es) t)
    (hdb : (x == ("__debug__" : Str)) = false := by decide) (he : starEach (e :: es) X.env = (false, eval e X.env) :: starEach es X.env := by rfl) (hpl : (backTo pos (starEach es X.env)).any (·.1) = false := by rfl) :
    PE X (.Call (.Name x p) (e :: es) [] pos) (tCall sp [] E0 t) := by
  obtain ⟨f, fd, ps, F, hm, kp, b⟩ := c.ex
  exact pe_call F (hr.mono hk) hg hm kp b .nil pass0 ha hdb he hpl
end
/-! what is kept: all but the addresses of S -/
def Kp (S : List Addr) (H H' : Hp) : Prop := ∀ b o, b ∉ S → H b = some o → H' b = some o
end Ov
namespace Ov
open PySem PySem.Spec PyProof.Rows L2

/-! ## data by value, mutable things in a store -/
def Ex (H H' : Hp) : Prop := ∀ a o, H a = some o → H' a = some o
theorem Ex.refl (H : Hp) : Ex H H := fun _ _ q => q
theorem Ex.trans {H H1 H2 : Hp} (x : Ex H H1) (y : Ex H1 H2) : Ex H H2 := fun a o q => y a o (x a o q)
theorem ex_l {K : PySem.W.Frag} {H H' : Hp} {a : Addr} {xs : List V} (e : Ex H H') (h : SqL K H a xs) : SqL K H' a xs := Same.seq e h
theorem ex_t {K : PySem.W.Frag} {H H' : Hp} {a : Addr} {xs : List V} (e : Ex H H') (h : SqT K H a xs) : SqT K H' a xs :=
  h.elim (fun r => .inl (r.elim (fun q => .inl (e _ _ q)) fun ⟨o, q⟩ => .inr ⟨o, e _ _ q⟩)) .inr
def kD : Key → PyData
  | .inl i => .int i
  | .inr x => .str x
mutual
/-- data that stand in the heap as themselves: lists and dicts are no constants of the text -/
inductive Dq (K : PySem.W.Frag) (H : Hp) : V → PyData → Prop
  | non : Dq K H .non .none
  | bl (b : Bool) : Dq K H (.bl b) (.bool b)
  | int (i : Int) : Dq K H (.int i) (.int i)
  | str (x : Str) : Dq K H (.str x) (.str x)
  | lst {a : Addr} {xs : List V} {ds : List PyData} : H a = some (.lst xs) → DqAll K H xs ds → Dq K H (.ref a) (.list ds)
  | tup {a : Addr} {xs : List V} {ds : List PyData} : SqT K H a xs → DqAll K H xs ds → Dq K H (.ref a) (.tuple ds)
  | dct {a : Addr} {kvs : List (Key × V)} {ds : List (PyData × PyData)} : H a = some (.dK kvs) → DqKs K H kvs ds → Dq K H (.ref a) (.dict ds)
inductive DqAll (K : PySem.W.Frag) (H : Hp) : List V → List PyData → Prop
  | nil : DqAll K H [] []
  | cons {v : V} {vs : List V} {d : PyData} {ds : List PyData} : Dq K H v d → DqAll K H vs ds → DqAll K H (v :: vs) (d :: ds)
inductive DqKs (K : PySem.W.Frag) (H : Hp) : List (Key × V) → List (PyData × PyData) → Prop
  | nil : DqKs K H [] []
  | cons {k : Key} {v : V} {d : PyData} {vs : List (Key × V)} {ds : List (PyData × PyData)} : Dq K H v d → DqKs K H vs ds → DqKs K H ((k, v) :: vs) ((kD k, d) :: ds)
end
mutual
theorem dp_up {K : PySem.W.Frag} {H H' : Hp} (e : Ex H H') : ∀ {v : V} {d : PyData}, Dq K H v d → Dq K H' v d
  | _, _, .non => .non
  | _, _, .bl b => .bl b
  | _, _, .int i => .int i
  | _, _, .str x => .str x
  | _, _, .lst hs ha => .lst (e _ _ hs) (dpAll_up e ha)
  | _, _, .tup hs ha => .tup (ex_t e hs) (dpAll_up e ha)
  | _, _, .dct hs ha => .dct (e _ _ hs) (dqKs_up e ha)
theorem dpAll_up {K : PySem.W.Frag} {H H' : Hp} (e : Ex H H') : ∀ {vs : List V} {ds : List PyData}, DqAll K H vs ds → DqAll K H' vs ds
  | _, _, .nil => .nil
  | _, _, .cons h1 h2 => .cons (dp_up e h1) (dpAll_up e h2)
theorem dqKs_up {K : PySem.W.Frag} {H H' : Hp} (e : Ex H H') : ∀ {vs : List (Key × V)} {ds : List (PyData × PyData)}, DqKs K H vs ds → DqKs K H' vs ds
  | _, _, .nil => .nil
  | _, _, .cons h1 h2 => .cons (dp_up e h1) (dqKs_up e h2)
end
mutual
theorem dq_dp {K : PySem.W.Frag} {H : Hp} : ∀ {d : PyData} {v : V}, d.hasDict = false → Dq K H v d → Dp K H v d
  | .none, _, _, h => by cases h; exact .non
  | .bool b, _, _, h => by cases h; exact .bl b
  | .int i, _, _, h => by cases h; exact .int i
  | .str x, _, _, h => by cases h; exact .str x
  | .list ds, _, z, h => by
    cases h with
    | lst hs ha => exact .lst (SqL.of hs) (dqAll_dp (by simpa [PyData.hasDict] using z) ha)
  | .tuple ds, _, z, h => by
    cases h with
    | tup hs ha => exact .tup hs (dqAll_dp (by simpa [PyData.hasDict] using z) ha)
  | .dict _, _, z, h => by simp [PyData.hasDict] at z
theorem dqAll_dp {K : PySem.W.Frag} {H : Hp} : ∀ {ds : List PyData} {vs : List V}, PyData.hasDictAll ds = false → DqAll K H vs ds → DpAll K H vs ds
  | [], _, _, h => by cases h; exact .nil
  | d :: ds, _, z, h => by
    cases h with
    | cons h1 h2 =>
      simp only [PyData.hasDictAll, Bool.or_eq_false_iff] at z
      exact .cons (dq_dp z.1 h1) (dqAll_dp z.2 h2)
end
theorem dqKs_len {K : PySem.W.Frag} {H : Hp} : ∀ {kvs : List (Key × V)} {ds : List (PyData × PyData)}, DqKs K H kvs ds → kvs.length = ds.length
  | _, _, .nil => rfl
  | _, _, .cons _ h => congrArg Nat.succ (dqKs_len h)
theorem dpAll_len {K : PySem.W.Frag} {H : Hp} : ∀ {ds : List PyData} {vs : List V}, DqAll K H vs ds → vs.length = ds.length
  | [], _, h => by cases h; rfl
  | d :: ds, _, h => by
    cases h with
    | cons h1 h2 => exact congrArg Nat.succ (dpAll_len h2)

/-- values that are never changed: data, instances, tuples and lists of such -/
inductive CV where
  | dat (d : PyData) | obj (C : Addr) (fs : List (Str × CV)) | tup (xs : List CV) | lst (xs : List CV)
instance : Inhabited CV := ⟨.dat .none⟩
mutual
inductive RC (K : PySem.W.Frag) (H : Hp) : V → CV → Prop
  | dat {v : V} {d : PyData} : Dq K H v d → RC K H v (.dat d)
  | obj {a C dx : Addr} {fs : List (Str × V)} {gs : List (Str × CV)} : H a = some (.ins C dx fs) → RCf K H fs gs → RC K H (.ref a) (.obj C gs)
  | tup {a : Addr} {xs : List V} {cs : List CV} : SqT K H a xs → RCs K H xs cs → RC K H (.ref a) (.tup cs)
  | lst {a : Addr} {xs : List V} {cs : List CV} : H a = some (.lst xs) → RCs K H xs cs → RC K H (.ref a) (.lst cs)
inductive RCs (K : PySem.W.Frag) (H : Hp) : List V → List CV → Prop
  | nil : RCs K H [] []
  | cons {v : V} {c : CV} {vs : List V} {cs : List CV} : RC K H v c → RCs K H vs cs → RCs K H (v :: vs) (c :: cs)
inductive RCf (K : PySem.W.Frag) (H : Hp) : List (Str × V) → List (Str × CV) → Prop
  | nil : RCf K H [] []
  | cons {k : Str} {v : V} {c : CV} {vs : List (Str × V)} {cs : List (Str × CV)} : RC K H v c → RCf K H vs cs → RCf K H ((k, v) :: vs) ((k, c) :: cs)
end
mutual
theorem RC.up {K : PySem.W.Frag} {H H' : Hp} (e : Ex H H') : ∀ {v : V} {c : CV}, RC K H v c → RC K H' v c
  | _, _, .dat h => .dat (dp_up e h)
  | _, _, .obj h r => .obj (e _ _ h) (RCf.up e r)
  | _, _, .tup h r => .tup (ex_t e h) (RCs.up e r)
  | _, _, .lst h r => .lst (e _ _ h) (RCs.up e r)
theorem RCs.up {K : PySem.W.Frag} {H H' : Hp} (e : Ex H H') : ∀ {vs : List V} {cs : List CV}, RCs K H vs cs → RCs K H' vs cs
  | _, _, .nil => .nil
  | _, _, .cons h r => .cons (RC.up e h) (RCs.up e r)
theorem RCf.up {K : PySem.W.Frag} {H H' : Hp} (e : Ex H H') : ∀ {vs : List (Str × V)} {cs : List (Str × CV)}, RCf K H vs cs → RCf K H' vs cs
  | _, _, .nil => .nil
  | _, _, .cons h r => .cons (RC.up e h) (RCf.up e r)
end
/-- a value: data, or a thing at an address, or a class -/
inductive AV where
  | dat (d : PyData) | own (a : Addr) | ty (n : String) | scr (ns : List Int) | cv (c : CV)
instance : Inhabited AV := ⟨.dat .none⟩
inductive AO where
  | lst (xs : List AV) | dct (kvs : List (Key × AV)) | ins (C : Addr) (fs : List (Str × AV)) | tup (xs : List AV)
abbrev Sto := Addr → Option AO
def Sto.set (S : Sto) (a : Addr) (o : AO) : Sto := fun b => if b = a then some o else S b
def Sto.del (S : Sto) (a : Addr) : Sto := fun b => if b = a then none else S b
theorem set_same {S : Sto} {a : Addr} {o : AO} : S.set a o a = some o := if_pos rfl
theorem set_ne {S : Sto} {a b : Addr} {o : AO} (h : b ≠ a) : S.set a o b = S b := if_neg h
theorem del_same {S : Sto} {a : Addr} : S.del a a = none := if_pos rfl
theorem del_ne {S : Sto} {a b : Addr} (h : b ≠ a) : S.del a b = S b := if_neg h
theorem set_set {S : Sto} {a : Addr} {o u : AO} : (S.set a o).set a u = S.set a u := by
  funext b
  unfold Sto.set
  split <;> rfl
/-- the heap without what the store speaks of -/
def msk (S : Sto) (H : Hp) : Hp := fun a => if (S a).isSome then none else H a
theorem msk_ex {S : Sto} {H : Hp} : Ex (msk S H) H := fun a o e => by
  unfold msk at e
  split at e
  · cases e
  · exact e
def RA (K : PySem.W.Frag) (S : Sto) (H : Hp) (v : V) : AV → Prop
  | .dat d => Dq K (msk S H) v d
  | .own a => v = .ref a
  | .ty n => v = .ty n
  | .scr ns => ∃ p, v = .ref p ∧ SqL K (msk S H) p (ns.map V.int)
  | .cv c => RC K (msk S H) v c
inductive RAs (K : PySem.W.Frag) (S : Sto) (H : Hp) : List V → List AV → Prop
  | nil : RAs K S H [] []
  | cons {v : V} {a : AV} {vs : List V} {as : List AV} : RA K S H v a → RAs K S H vs as → RAs K S H (v :: vs) (a :: as)
inductive RKs (K : PySem.W.Frag) (S : Sto) (H : Hp) : List (Key × V) → List (Key × AV) → Prop
  | nil : RKs K S H [] []
  | cons {k : Key} {v : V} {a : AV} {vs : List (Key × V)} {as : List (Key × AV)} : RA K S H v a → RKs K S H vs as → RKs K S H ((k, v) :: vs) ((k, a) :: as)
inductive RFs (K : PySem.W.Frag) (S : Sto) (H : Hp) : List (Str × V) → List (Str × AV) → Prop
  | nil : RFs K S H [] []
  | cons {k : Str} {v : V} {a : AV} {vs : List (Str × V)} {as : List (Str × AV)} : RA K S H v a → RFs K S H vs as → RFs K S H ((k, v) :: vs) ((k, a) :: as)
def OA (K : PySem.W.Frag) (S : Sto) (H : Hp) (a : Addr) : AO → Prop
  | .lst as => ∃ xs, H a = some (.lst xs) ∧ RAs K S H xs as
  | .dct as => ∃ kvs, H a = some (.dK kvs) ∧ RKs K S H kvs as
  | .ins C as => ∃ dx fs, H a = some (.ins C dx fs) ∧ RFs K S H fs as
  | .tup as => ∃ xs, H a = some (.tup xs) ∧ RAs K S H xs as
def RS (K : PySem.W.Frag) (S : Sto) (H : Hp) : Prop := ∀ a o, S a = some o → OA K S H a o
/-- a step of the world: the store is held, what is not spoken of is kept -/
structure Go (K : PySem.W.Frag) (S : Sto) (H : Hp) (S' : Sto) (H' : Hp) : Prop where
  rs : RS K S' H'
  ex : Ex (msk S H) (msk S' H')
section
variable {K : PySem.W.Frag} {S S' S1 S2 : Sto} {H H' H1 H2 : Hp} {v : V} {a : AV}
theorem Go.refl (h : RS K S H) : Go K S H S H := ⟨h, Ex.refl _⟩
theorem Go.trans (x : Go K S H S1 H1) (y : Go K S1 H1 S2 H2) : Go K S H S2 H2 := ⟨y.rs, x.ex.trans y.ex⟩
theorem RA.up (r : RA K S H v a) (e : Ex (msk S H) (msk S' H')) : RA K S' H' v a := by
  cases a with
  | dat d => exact dp_up e r
  | own b => exact r
  | ty n => exact r
  | scr ns => exact let ⟨p, q1, q2⟩ := r; ⟨p, q1, ex_l e q2⟩
  | cv c => exact RC.up e r
theorem RA.go (r : RA K S H v a) (g : Go K S H S' H') : RA K S' H' v a := r.up g.ex
theorem RAs.up (e : Ex (msk S H) (msk S' H')) : ∀ {vs : List V} {as : List AV}, RAs K S H vs as → RAs K S' H' vs as
  | _, _, .nil => .nil
  | _, _, .cons r t => .cons (r.up e) (RAs.up e t)
theorem RKs.up (e : Ex (msk S H) (msk S' H')) : ∀ {vs : List (Key × V)} {as : List (Key × AV)}, RKs K S H vs as → RKs K S' H' vs as
  | _, _, .nil => .nil
  | _, _, .cons r t => .cons (r.up e) (RKs.up e t)
theorem RFs.up (e : Ex (msk S H) (msk S' H')) : ∀ {vs : List (Str × V)} {as : List (Str × AV)}, RFs K S H vs as → RFs K S' H' vs as
  | _, _, .nil => .nil
  | _, _, .cons r t => .cons (r.up e) (RFs.up e t)
theorem RAs.len : ∀ {vs : List V} {as : List AV}, RAs K S H vs as → vs.length = as.length
  | _, _, .nil => rfl
  | _, _, .cons _ t => congrArg Nat.succ (RAs.len t)
theorem RAs.app : ∀ {vs ws : List V} {as bs : List AV}, RAs K S H vs as → RAs K S H ws bs → RAs K S H (vs ++ ws) (as ++ bs)
  | _, _, _, _, .nil, s => s
  | _, _, _, _, .cons r t, s => .cons r (RAs.app t s)
theorem RAs.get : ∀ {vs : List V} {as : List AV} {i : Nat} {a : AV}, RAs K S H vs as → as[i]? = some a → ∃ v, vs[i]? = some v ∧ RA K S H v a
  | _, _, _, _, .nil, e => by simp at e
  | _, _, 0, _, .cons r _, e => by simp at e; subst e; exact ⟨_, rfl, r⟩
  | _, _, i + 1, _, .cons _ t, e => by
    obtain ⟨u, h1, h2⟩ := RAs.get (i := i) t (by simpa using e)
    exact ⟨u, by simpa using h1, h2⟩
/-- lists of data -/
def dats (ds : List PyData) : List AV := ds.map .dat
theorem RAs.of_dp : ∀ {vs : List V} {ds : List PyData}, DqAll K (msk S H) vs ds → RAs K S H vs (dats ds)
  | _, [], h => by cases h; exact .nil
  | _, d :: ds, h => by
    cases h with
    | cons h1 h2 => exact .cons h1 (RAs.of_dp h2)
theorem RAs.to_dp : ∀ {vs : List V} {ds : List PyData}, RAs K S H vs (dats ds) → DqAll K (msk S H) vs ds
  | _, [], h => by cases h; exact .nil
  | _, d :: ds, h => by
    cases h with
    | cons h1 h2 => exact .cons h1 (RAs.to_dp h2)
theorem OA.up {o : AO} {b : Addr} (h : OA K S H b o) (e : Ex (msk S H) (msk S' H')) (k : ∀ u, H b = some u → H' b = some u) : OA K S' H' b o := by
  cases o with
  | lst as => obtain ⟨xs, h1, h2⟩ := h; exact ⟨xs, k _ h1, h2.up e⟩
  | dct as => obtain ⟨xs, h1, h2⟩ := h; exact ⟨xs, k _ h1, h2.up e⟩
  | ins C as => obtain ⟨dx, xs, h1, h2⟩ := h; exact ⟨dx, xs, k _ h1, h2.up e⟩
  | tup as => obtain ⟨xs, h1, h2⟩ := h; exact ⟨xs, k _ h1, h2.up e⟩
theorem OA.some {o : AO} {b : Addr} (h : OA K S H b o) : ∃ u, H b = some u := by
  cases o with
  | lst as => obtain ⟨xs, h1, h2⟩ := h; exact ⟨_, h1⟩
  | dct as => obtain ⟨xs, h1, h2⟩ := h; exact ⟨_, h1⟩
  | ins C as => obtain ⟨dx, xs, h1, h2⟩ := h; exact ⟨_, h1⟩
  | tup as => obtain ⟨xs, h1, h2⟩ := h; exact ⟨_, h1⟩
theorem RS.none_of {p : Addr} (r : RS K S H) (h : H p = none) : S p = none := by
  cases e : S p with
  | none => rfl
  | some o =>
    obtain ⟨u, hu⟩ := (r p o e).some
    rw [h] at hu
    cases hu
/-- a new thing that the store does not speak of -/
theorem Go.new {p : Addr} {o : HO} (r : RS K S H) (h : H p = none) : Go K S H S (upd H p o) := by
  have ex : Ex (msk S H) (msk S (upd H p o)) := fun a u e => by
    unfold msk at e ⊢
    split at e
    · cases e
    · rename_i hs
      rw [if_neg hs, upd_ne (ne_of_none e h)]
      exact e
  exact ⟨fun a u e => (r a u e).up ex fun w hw => by rw [upd_ne (ne_of_none hw h)]; exact hw, ex⟩
/-- a new thing that the store speaks of -/
theorem Go.own {p : Addr} {o : HO} {ao : AO} (r : RS K S H) (h : H p = none) (n : ∀ S' H', Ex (msk S H) (msk S' H') → H' p = some o → OA K S' H' p ao) : Go K S H (S.set p ao) (upd H p o) := by
  have ex : Ex (msk S H) (msk (S.set p ao) (upd H p o)) := fun a u e => by
    unfold msk at e ⊢
    split at e
    · cases e
    · rename_i hs
      have hne := ne_of_none e h
      rw [set_ne hne, if_neg hs, upd_ne hne]
      exact e
  refine ⟨fun a u e => ?_, ex⟩
  by_cases hp : a = p
  · subst hp
    rw [set_same] at e
    cases e
    exact n _ _ ex upd_same
  · rw [set_ne hp] at e
    exact (r a u e).up ex fun w hw => by rw [upd_ne hp]; exact hw
/-- a thing of the store changed -/
theorem Go.put {p : Addr} {o : HO} {ao : AO} (r : RS K S H) (h : (S p).isSome = true) (n : ∀ S' H', Ex (msk S H) (msk S' H') → H' p = some o → OA K S' H' p ao) : Go K S H (S.set p ao) (upd H p o) := by
  have ex : Ex (msk S H) (msk (S.set p ao) (upd H p o)) := fun a u e => by
    unfold msk at e ⊢
    split at e
    · cases e
    · rename_i hs
      have hne : a ≠ p := fun q => by subst q; exact hs h
      rw [set_ne hne, if_neg hs, upd_ne hne]
      exact e
  refine ⟨fun a u e => ?_, ex⟩
  by_cases hp : a = p
  · subst hp
    rw [set_same] at e
    cases e
    exact n _ _ ex upd_same
  · rw [set_ne hp] at e
    exact (r a u e).up ex fun w hw => by rw [upd_ne hp]; exact hw
/-- a thing of the store is given free: data from now on -/
theorem Go.free (p : Addr) (r : RS K S H) : Go K S H (S.del p) H := by
  have ex : Ex (msk S H) (msk (S.del p) H) := fun a u e => by
    unfold msk at e ⊢
    split at e
    · cases e
    · rename_i hs
      have : ¬ ((S.del p a).isSome = true) := by
        unfold Sto.del
        split
        · simp
        · exact hs
      rw [if_neg this]
      exact e
  refine ⟨fun a u e => ?_, ex⟩
  have hne : a ≠ p := fun q => by
    subst q
    rw [del_same] at e
    cases e
  rw [del_ne hne] at e
  exact (r a u e).up ex fun w hw => hw
theorem ra_free_list {p : Addr} {ds : List PyData} (r : RS K S H) (h : S p = some (.lst (dats ds))) : RA K (S.del p) H (.ref p) (.dat (.list ds)) := by
  obtain ⟨xs, h1, h2⟩ := r p _ h
  have g := Go.free p r
  have hp : msk (S.del p) H p = some (.lst xs) := by
    unfold msk
    rw [del_same]
    exact h1
  exact Dq.lst hp (RAs.to_dp (h2.up g.ex))
theorem msk_new {p : Addr} {o : HO} (r : RS K S H) (h : H p = none) : msk S (upd H p o) p = some o := by
  unfold msk
  rw [r.none_of h]
  exact upd_same
end
/-! ## slots -/
def Sl (K : PySem.W.Frag) (S : Sto) (H : Hp) (σ : List (Option V)) (δ : List (Option AV)) : Prop := σ.length = δ.length ∧ ∀ (i : Nat) (a : AV), δ[i]? = some (some a) → ∃ v : V, σ[i]? = some (some v) ∧ RA K S H v a
theorem Sl.go {K : PySem.W.Frag} {S S' : Sto} {H H' : Hp} {σ : List (Option V)} {δ : List (Option AV)} (x : Sl K S H σ δ) (g : Go K S H S' H') : Sl K S' H' σ δ :=
  ⟨x.1, fun i a e => let ⟨v, h1, h2⟩ := x.2 i a e; ⟨v, h1, h2.go g⟩⟩
theorem Sl.set {K : PySem.W.Frag} {S : Sto} {H : Hp} {σ : List (Option V)} {δ : List (Option AV)} (x : Sl K S H σ δ) (i : Nat) {v : V} {a : AV} (r : RA K S H v a) : Sl K S H (σ.set i (some v)) (δ.set i (some a)) := by
  refine ⟨by rw [List.length_set, List.length_set]; exact x.1, fun j b e => ?_⟩
  by_cases hj : j = i
  · subst hj
    by_cases hl : j < δ.length
    · rw [List.getElem?_set_self hl] at e
      cases e
      exact ⟨v, List.getElem?_set_self (by rw [x.1]; exact hl), r⟩
    · rw [List.getElem?_eq_none (by rw [List.length_set]; omega)] at e
      cases e
  · rw [List.getElem?_set_ne (Ne.symm hj)] at e ⊢
    exact x.2 j b e
/-- a slot forgotten -/
theorem Sl.drop {K : PySem.W.Frag} {S : Sto} {H : Hp} {σ σ' : List (Option V)} {δ δ' : List (Option AV)} (x : Sl K S H σ δ) (h1 : σ'.length = δ'.length) (h2 : ∀ (i : Nat) (a : AV), δ'[i]? = some (some a) → δ[i]? = some (some a) ∧ σ'[i]? = σ[i]?) : Sl K S H σ' δ' :=
  ⟨h1, fun i a e => let ⟨v, e1, e2⟩ := x.2 i a (h2 i a e).1; ⟨v, (h2 i a e).2.trans e1, e2⟩⟩
end Ov
namespace Ov
open PySem PySem.Spec PyProof.Rows L2
abbrev Dl := List (Option AV)
abbrev Po := AV → Sto → Prop
/-! ## readings over data: te at (slots, store) gives a value and a store of which P holds -/
section
variable (K : PySem.W.Frag)
def WE (te : TE) (δ : Dl) (S : Sto) (P : Po) : Prop := ∀ (σ : L2.St) (H : Hp) (Q : VK), RS K S H → Sl K S H σ δ → (∀ v H' a S', Go K S H S' H' → RA K S' H' v a → P a S' → Q v H') → te σ H Q
def WA (ta : TA) (δ : Dl) (S : Sto) (P : List AV → Sto → Prop) : Prop := ∀ (σ : L2.St) (H : Hp) (Q : List V → Hp → Prop), RS K S H → Sl K S H σ δ → (∀ vs H' as S', Go K S H S' H' → RAs K S' H' vs as → P as S' → Q vs H') → ta σ H Q
def WT (tt : TT) (δ : Dl) (S : Sto) (P : Bool → Sto → Prop) : Prop := ∀ (σ : L2.St) (H : Hp) (Q : Bool → Hp → Prop), RS K S H → Sl K S H σ δ → (∀ b H' S', Go K S H S' H' → P b S' → Q b H') → tt σ H Q
def WO (to : TO) (δ : Dl) (S : Sto) (P : Option Int → Sto → Prop) : Prop := ∀ (σ : L2.St) (H : Hp) (Q : Option Int → Hp → Prop), RS K S H → Sl K S H σ δ → (∀ b H' S', Go K S H S' H' → P b S' → Q b H') → to σ H Q
def W2 (r : R2) (a b : AV) (S : Sto) (P : Po) : Prop := ∀ (x y : V) (H : Hp) (Q : VK), RS K S H → RA K S H x a → RA K S H y b → (∀ v H' c S', Go K S H S' H' → RA K S' H' v c → P c S' → Q v H') → r x y H Q
def W1 (r : V → Hp → VK → Prop) (a : AV) (S : Sto) (P : Po) : Prop := ∀ (x : V) (H : Hp) (Q : VK), RS K S H → RA K S H x a → (∀ v H' c S', Go K S H S' H' → RA K S' H' v c → P c S' → Q v H') → r x H Q
def WC (r : List V → Hp → VK → Prop) (as : List AV) (S : Sto) (P : Po) : Prop := ∀ (xs : List V) (H : Hp) (Q : VK), RS K S H → RAs K S H xs as → (∀ v H' c S', Go K S H S' H' → RA K S' H' v c → P c S' → Q v H') → r xs H Q
def WL (r : V → Option Int → Option Int → Hp → VK → Prop) (a : AV) (lo hi : Option Int) (S : Sto) (P : Po) : Prop := ∀ (x : V) (H : Hp) (Q : VK), RS K S H → RA K S H x a → (∀ v H' c S', Go K S H S' H' → RA K S' H' v c → P c S' → Q v H') → r x lo hi H Q
def WG (tg : TG) (a : AV) (δ : Dl) (S : Sto) (P : Dl → Sto → Prop) : Prop := ∀ (v : V) (σ : L2.St) (H : Hp) (Q : L2.St → Hp → Prop), RS K S H → Sl K S H σ δ → RA K S H v a → (∀ σ' H' δ' S', Go K S H S' H' → Sl K S' H' σ' δ' → P δ' S' → Q σ' H') → tg v σ H Q
def WGs (tg : TGs) (as : List AV) (δ : Dl) (S : Sto) (P : Dl → Sto → Prop) : Prop := ∀ (vs : List V) (σ : L2.St) (H : Hp) (Q : L2.St → Hp → Prop), RS K S H → Sl K S H σ δ → RAs K S H vs as → (∀ σ' H' δ' S', Go K S H S' H' → Sl K S' H' σ' δ' → P δ' S' → Q σ' H') → tg vs σ H Q
end
/-- what is wanted of a statement's ways out -/
structure Rr where
  nx : Dl → Sto → Prop
  rt : Po
  bk : Dl → Sto → Prop := fun _ _ => False
  ct : Dl → Sto → Prop := fun _ _ => False
structure Fits (K : PySem.W.Frag) (S : Sto) (H : Hp) (R : Rr) (D : Ends) : Prop where
  nx : ∀ σ' H' δ' S', Go K S H S' H' → Sl K S' H' σ' δ' → R.nx δ' S' → D.nx σ' H'
  rt : ∀ v H' a S', Go K S H S' H' → RA K S' H' v a → R.rt a S' → D.rt v H'
  bk : ∀ σ' H' δ' S', Go K S H S' H' → Sl K S' H' σ' δ' → R.bk δ' S' → D.bk σ' H'
  ct : ∀ σ' H' δ' S', Go K S H S' H' → Sl K S' H' σ' δ' → R.ct δ' S' → D.ct σ' H'
theorem Fits.go {K : PySem.W.Frag} {S S1 : Sto} {H H1 : Hp} {R : Rr} {D : Ends} (f : Fits K S H R D) (g : Go K S H S1 H1) : Fits K S1 H1 R D :=
  ⟨fun _ _ _ _ g' => f.nx _ _ _ _ (g.trans g'), fun _ _ _ _ g' => f.rt _ _ _ _ (g.trans g'), fun _ _ _ _ g' => f.bk _ _ _ _ (g.trans g'), fun _ _ _ _ g' => f.ct _ _ _ _ (g.trans g')⟩
def WS (K : PySem.W.Frag) (ts : TS) (δ : Dl) (S : Sto) (R : Rr) : Prop := ∀ (σ : L2.St) (H : Hp) (D : Ends), RS K S H → Sl K S H σ δ → Fits K S H R D → ts D σ H

section
variable {K : PySem.W.Frag} {te ta tb : TE} {tas : TA} {δ : Dl} {S : Sto} {P : Po} {a b : AV} {tt tu : TT} {t u : TS} {R : Rr}
theorem WE.imp {P' : Po} (h : WE K te δ S P) (i : ∀ a S', P a S' → P' a S') : WE K te δ S P' := fun σ H Q r s k => h σ H Q r s fun v H' a S' g ra p => k v H' a S' g ra (i a S' p)
/-! ### expressions -/
theorem we_var {i : Nat} (e : δ[i]? = some (some a)) (p : P a S) : WE K (tVar i) δ S P := fun σ H Q r s k => by
  obtain ⟨v, e1, ra⟩ := s.2 i a e
  exact ⟨v, e1, k v H a S (Go.refl r) ra p⟩
theorem we_int {i : Int} (p : P (.dat (.int i)) S) : WE K (tC (.int i)) δ S P := fun σ H Q r _ k => k _ H (.dat (.int i)) S (Go.refl r) (Dq.int i) p
theorem we_str {x : Str} (p : P (.dat (.str x)) S) : WE K (tC (.str x)) δ S P := fun σ H Q r _ k => k _ H (.dat (.str x)) S (Go.refl r) (Dq.str x) p
theorem we_bl {x : Bool} (p : P (.dat (.bool x)) S) : WE K (tC (.bl x)) δ S P := fun σ H Q r _ k => k _ H (.dat (.bool x)) S (Go.refl r) (Dq.bl x) p
theorem we_non (p : P (.dat .none) S) : WE K (tC .non) δ S P := fun σ H Q r _ k => k _ H (.dat .none) S (Go.refl r) Dq.non p
theorem we_ty {n : String} (p : P (.ty n) S) : WE K (tC (.ty n)) δ S P := fun σ H Q r _ k => k _ H (.ty n) S (Go.refl r) rfl p
theorem we_dat {v : V} {d : PyData} (h : ∀ H, Dq K H v d) (p : P (.dat d) S) : WE K (tC v) δ S P := fun σ H Q r _ k => k _ H (.dat d) S (Go.refl r) (h _) p
theorem we_op {r : R2} (h : WE K ta δ S fun a S1 => WE K tb δ S1 fun b S2 => W2 K r a b S2 P) : WE K (tOp r ta tb) δ S P := fun σ H Q rs s k =>
  h σ H _ rs s fun x H1 a S1 g1 r1 w => w σ H1 _ g1.rs (s.go g1) fun y H2 b S2 g2 r2 w2 => w2 x y H2 Q g2.rs (r1.go g2) r2 fun v H' c S' g => k v H' c S' ((g1.trans g2).trans g)
theorem we_un {r : V → Hp → VK → Prop} (h : WE K ta δ S fun a S1 => W1 K r a S1 P) : WE K (tUn r ta) δ S P := fun σ H Q rs s k =>
  h σ H _ rs s fun x H1 a S1 g1 r1 w => w x H1 Q g1.rs r1 fun v H' c S' g => k v H' c S' (g1.trans g)
theorem we_cb {r : List V → Hp → VK → Prop} (h : WA K tas δ S fun as S1 => WC K r as S1 P) : WE K (tCB r tas) δ S P := fun σ H Q rs s k =>
  h σ H _ rs s fun x H1 a S1 g1 r1 w => w x H1 Q g1.rs r1 fun v H' c S' g => k v H' c S' (g1.trans g)
theorem we_tup (h : WA K tas δ S fun as S1 => ∃ ds, as = dats ds ∧ ds.length ≤ 100000 ∧ P (.dat (.tuple ds)) S1) : WE K (tTup tas) δ S P := fun σ H Q rs s k =>
  h σ H _ rs s fun xs H1 as S1 g1 r1 ⟨ds, e, hl, p⟩ => by
    subst e
    have hlen : xs.length = ds.length := by rw [r1.len]; unfold dats; rw [List.length_map]
    refine ⟨Nat.le_trans (by rw [hlen]; exact hl) (by decide), fun q hq => ?_⟩
    have g2 := Go.new (o := .tup xs) g1.rs hq
    exact k _ _ (.dat (.tuple ds)) S1 (g1.trans g2) (Dq.tup (SqT.of (msk_new g1.rs hq)) (dpAll_up g2.ex r1.to_dp)) p
theorem we_lst (h : WA K tas δ S fun as S1 => ∃ ds, as = dats ds ∧ ds.length ≤ 100000 ∧ P (.dat (.list ds)) S1) : WE K (tLst tas) δ S P := fun σ H Q rs s k =>
  h σ H _ rs s fun xs H1 as S1 g1 r1 ⟨ds, e, hl, p⟩ => by
    subst e
    have hlen : xs.length = ds.length := by rw [r1.len]; unfold dats; rw [List.length_map]
    refine ⟨Nat.le_trans (by rw [hlen]; exact hl) (by decide), fun q hq => ?_⟩
    have g2 := Go.new (o := .lst xs) g1.rs hq
    exact k _ _ (.dat (.list ds)) S1 (g1.trans g2) (Dq.lst (msk_new g1.rs hq) (dpAll_up g2.ex r1.to_dp)) p
theorem go_lst {H : Hp} {p : Addr} {xs : List V} {as : List AV} (rs : RS K S H) (r : RAs K S H xs as) (h : H p = none) : Go K S H (S.set p (.lst as)) (upd H p (.lst xs)) :=
  Go.own rs h fun S' H' e q => ⟨xs, q, r.up e⟩
theorem put_lst {H : Hp} {p : Addr} {xs : List V} {as : List AV} (rs : RS K S H) (r : RAs K S H xs as) (h : (S p).isSome = true) : Go K S H (S.set p (.lst as)) (upd H p (.lst xs)) :=
  Go.put rs h fun S' H' e q => ⟨xs, q, r.up e⟩
/-- a new list that will be changed -/
theorem we_lstO (h : WA K tas δ S fun as S1 => as.length ≤ 100000 ∧ ∀ p, S1 p = none → P (.own p) (S1.set p (.lst as))) : WE K (tLst tas) δ S P := fun σ H Q rs s k =>
  h σ H _ rs s fun xs H1 as S1 g1 r1 ⟨hl, p⟩ => by
    refine ⟨Nat.le_trans (by rw [r1.len]; exact hl) (by decide), fun q hq => ?_⟩
    exact k _ _ (.own q) _ (g1.trans (go_lst g1.rs r1 hq)) rfl (p q (g1.rs.none_of hq))
theorem wa_nil {P : List AV → Sto → Prop} (p : P [] S) : WA K tNil δ S P := fun σ H Q rs s k => k [] H [] S (Go.refl rs) .nil p
theorem wa_cons {P : List AV → Sto → Prop} (h : WE K ta δ S fun a S1 => WA K tas δ S1 fun as S2 => P (a :: as) S2) : WA K (tCons ta tas) δ S P := fun σ H Q rs s k =>
  h σ H _ rs s fun x H1 a S1 g1 r1 w => w σ H1 _ g1.rs (s.go g1) fun xs H2 as S2 g2 r2 p => k (x :: xs) H2 (a :: as) S2 (g1.trans g2) (.cons (r1.go g2) r2) p
theorem we_if (h : WT K tt δ S fun k S1 => if k = true then WE K ta δ S1 P else WE K tb δ S1 P) : WE K (tIf tt ta tb) δ S P := fun σ H Q rs s k =>
  h σ H _ rs s fun b H1 S1 g1 w => by
    cases b with
    | true => exact iteT (w σ H1 Q g1.rs (s.go g1) fun v H' c S' g => k v H' c S' (g1.trans g))
    | false => exact iteF (w σ H1 Q g1.rs (s.go g1) fun v H' c S' g => k v H' c S' (g1.trans g))
theorem we_or1 {u : TE} (h : WE K ta δ S P) : WE K (fun σ H Q => ta σ H Q ∨ u σ H Q) δ S P := fun σ H Q rs s k => .inl (h σ H Q rs s k)
theorem we_or2 {u : TE} (h : WE K ta δ S P) : WE K (fun σ H Q => u σ H Q ∨ ta σ H Q) δ S P := fun σ H Q rs s k => .inr (h σ H Q rs s k)
/-! ### tests -/
theorem wt_test {P : Bool → Sto → Prop} (h : WE K te δ S fun a S1 => ∃ k, a = .dat (.bool k) ∧ P k S1) : WT K (tTest te) δ S P := fun σ H Q rs s k =>
  h σ H _ rs s fun x H1 a S1 g1 r1 ⟨c, e, p⟩ => by
    subst e
    cases r1
    exact ⟨c, rfl, k c H1 S1 g1 p⟩
theorem wt_B {P : Bool → Sto → Prop} (h : WE K te δ S fun a S1 => ∃ k, a = .dat (.bool k) ∧ P k S1) : WT K (tB te) δ S P := fun σ H Q rs s k =>
  h σ H _ rs s fun x H1 a S1 g1 r1 ⟨c, e, p⟩ => by
    subst e
    cases r1
    exact ⟨c, rfl, k c H1 S1 g1 p⟩
theorem wt_not {P : Bool → Sto → Prop} (h : WT K tt δ S fun k S1 => P (!k) S1) : WT K (tNot tt) δ S P := fun σ H Q rs s k => h σ H _ rs s fun b H1 S1 g1 p => k (!b) H1 S1 g1 p
theorem wt_and {P : Bool → Sto → Prop} (h : WT K tt δ S fun k S1 => if k = true then WT K tu δ S1 P else P false S1) : WT K (tAnd tt tu) δ S P := fun σ H Q rs s k =>
  h σ H _ rs s fun b H1 S1 g1 w => by
    cases b with
    | true => exact iteT (w σ H1 Q g1.rs (s.go g1) fun v H' S' g => k v H' S' (g1.trans g))
    | false => exact iteF (k false H1 S1 g1 w)
theorem wt_or {P : Bool → Sto → Prop} (h : WT K tt δ S fun k S1 => if k = true then P true S1 else WT K tu δ S1 P) : WT K (tOr tt tu) δ S P := fun σ H Q rs s k =>
  h σ H _ rs s fun b H1 S1 g1 w => by
    cases b with
    | true => exact iteT (k true H1 S1 g1 w)
    | false => exact iteF (w σ H1 Q g1.rs (s.go g1) fun v H' S' g => k v H' S' (g1.trans g))
/-! ### statements -/
theorem ws_seq (h : WS K t δ S { R with nx := fun δ' S' => WS K u δ' S' R }) : WS K (tSeq t u) δ S R := fun σ H D rs s f =>
  h σ H { D with nx := u D } rs s ⟨fun σ' H' δ' S' g s' q => q σ' H' D g.rs s' (f.go g), f.rt, f.bk, f.ct⟩
theorem ws_next (h : R.nx δ S) : WS K tNext δ S R := fun σ H D rs s f => f.nx σ H δ S (Go.refl rs) s h
theorem ws_break (h : R.bk δ S) : WS K tBreak δ S R := fun σ H D rs s f => f.bk σ H δ S (Go.refl rs) s h
theorem ws_cont (h : R.ct δ S) : WS K tCont δ S R := fun σ H D rs s f => f.ct σ H δ S (Go.refl rs) s h
theorem ws_ret (h : WE K te δ S R.rt) : WS K (tRet te) δ S R := fun σ H D rs s f => h σ H _ rs s fun v H' a S' g r p => f.rt v H' a S' g r p
theorem ws_retN (h : R.rt (.dat .none) S) : WS K tRetN δ S R := fun σ H D rs s f => f.rt _ H (.dat .none) S (Go.refl rs) Dq.non h
theorem ws_drop (h : WE K te δ S fun _ S1 => R.nx δ S1) : WS K (tDrop te) δ S R := fun σ H D rs s f => h σ H _ rs s fun v H' a S' g r p => f.nx σ H' δ S' g (s.go g) p
theorem ws_if (h : WT K tt δ S fun k S1 => if k = true then WS K t δ S1 R else WS K u δ S1 R) : WS K (tIfS tt t u) δ S R := fun σ H D rs s f =>
  h σ H _ rs s fun b H1 S1 g1 w => by
    cases b with
    | true => exact iteT (w σ H1 D g1.rs (s.go g1) (f.go g1))
    | false => exact iteF (w σ H1 D g1.rs (s.go g1) (f.go g1))
theorem wg_name {i : Nat} {P : Dl → Sto → Prop} (h : P (δ.set i (some a)) S) : WG K (gName i) a δ S P := fun v σ H Q rs s r k => k _ H _ S (Go.refl rs) (s.set i r) h
theorem wgs_nil {P : Dl → Sto → Prop} (h : P δ S) : WGs K gNil [] δ S P := fun vs σ H Q rs s r k => by
  cases r
  exact ⟨rfl, k σ H δ S (Go.refl rs) s h⟩
theorem wgs_cons {g : TG} {gs : TGs} {as : List AV} {P : Dl → Sto → Prop} (h : WG K g a δ S fun δ1 S1 => WGs K gs as δ1 S1 P) : WGs K (gCons g gs) (a :: as) δ S P := fun vs σ H Q rs s r k => by
  cases r with
  | cons r1 r2 => exact ⟨_, _, rfl, h _ σ H _ rs s r1 fun σ' H' δ' S' g s' w => w _ σ' H' Q g.rs s' (r2.up g.ex) fun σ2 H2 δ2 S2 g2 => k σ2 H2 δ2 S2 (g.trans g2)⟩
theorem wg_tup {n : Nat} {gs : TGs} {ds : List PyData} {P : Dl → Sto → Prop} (e : ds.length = n) (h : WGs K gs (dats ds) δ S P) : WG K (gTup K n gs) (.dat (.tuple ds)) δ S P := fun v σ H Q rs s r k => by
  cases r with
  | tup h1 h2 => exact ⟨_, _, rfl, ex_t msk_ex h1, (dpAll_len h2).trans e, h _ σ H Q rs s (RAs.of_dp h2) k⟩
theorem ws_asg {g : TG} (h : WE K te δ S fun a S1 => WG K g a δ S1 R.nx) : WS K (tAsg te g) δ S R := fun σ H D rs s f =>
  h σ H _ rs s fun v H1 a S1 g1 r1 w => w v σ H1 _ g1.rs (s.go g1) r1 fun σ' H' δ' S' g2 s' p => f.nx σ' H' δ' S' (g1.trans g2) s' p
theorem ws_set {i : Nat} (h : WE K te δ S fun a S1 => R.nx (δ.set i (some a)) S1) : WS K (tAsg te (gName i)) δ S R := ws_asg (h.imp fun _ _ p => wg_name p)
theorem ws_par {i j : Nat} (h : WA K tas δ S fun as S1 => ∃ a b, as = [a, b] ∧ R.nx ((δ.set i (some a)).set j (some b)) S1) : WS K (tPar i j tas) δ S R := fun σ H D rs s f =>
  h σ H _ rs s fun vs H1 as S1 g1 r1 ⟨a, b, e, p⟩ => by
    subst e
    cases r1 with
    | cons ra r2 =>
      cases r2 with
      | cons rb r3 =>
        cases r3
        exact ⟨_, _, rfl, f.nx _ H1 _ S1 g1 (((s.go g1).set i ra).set j rb) p⟩
theorem ws_par3 {i j l : Nat} (h : WA K tas δ S fun as S1 => ∃ a b c, as = [a, b, c] ∧ R.nx (((δ.set i (some a)).set j (some b)).set l (some c)) S1) : WS K (tPar3 i j l tas) δ S R := fun σ H D rs s f =>
  h σ H _ rs s fun vs H1 as S1 g1 r1 ⟨a, b, c, e, p⟩ => by
    subst e
    cases r1 with
    | cons ra r2 =>
      cases r2 with
      | cons rb r3 =>
        cases r3 with
        | cons rc r4 =>
          cases r4
          exact ⟨_, _, _, rfl, f.nx _ H1 _ S1 g1 ((((s.go g1).set i ra).set j rb).set l rc) p⟩
/-! ### loops -/
/-- for x in range(n) -/
theorem ws_range {g : TG} (I : Nat → Dl → Sto → Prop) (n : Nat) (h : WA K tas δ S fun as S1 => as = [.dat (.int n)] ∧ n < 2 ^ 60 ∧ I 0 δ S1)
    (hs : ∀ i δ' S', i < n → I i δ' S' → WG K g (.dat (.int i)) δ' S' fun δ2 S2 => WS K t δ2 S2 { R with nx := I (i + 1), ct := I (i + 1), bk := R.nx }) (hd : ∀ δ' S', I n δ' S' → R.nx δ' S') : WS K (tFor (iRng1 tas) g t) δ S R := fun σ H D rs s f =>
  h σ H _ rs s fun vs H1 as S1 g1 r1 ⟨e, hn, h0⟩ => by
    subst e
    cases r1 with
    | cons ra r2 =>
      cases r2
      cases ra
      refine ⟨n, rfl, by omega, by omega, ?_⟩
      refine for_range (lo := 0) (n := ((n : Int)).toNat) (fun i σ' H' => ∃ δ' S', Go K S H S' H' ∧ Sl K S' H' σ' δ' ∧ I i δ' S') ⟨δ, S1, g1, s.go g1, h0⟩ ?_ ?_
      · rintro i σ' H' hi ⟨δ', S', g', s', p⟩
        have hi' : i < n := by omega
        refine hs i δ' S' hi' p (.int (0 + (i : Int))) σ' H' _ g'.rs s' ?_ fun σ2 H2 δ2 S2 g2 s2 w => w σ2 H2 _ g2.rs s2 ?_
        · have z : (0 : Int) + (i : Int) = (i : Int) := by omega
          rw [z]
          exact Dq.int _
        · have f2 := f.go (g'.trans g2)
          exact ⟨fun σ3 H3 δ3 S3 g3 s3 q => ⟨δ3, S3, (g'.trans g2).trans g3, s3, q⟩, f2.rt, f2.nx, fun σ3 H3 δ3 S3 g3 s3 q => ⟨δ3, S3, (g'.trans g2).trans g3, s3, q⟩⟩
      · rintro σ' H' ⟨δ', S', g', s', p⟩
        have z : ((n : Int)).toNat = n := by omega
        rw [z] at p
        exact f.nx σ' H' δ' S' g' s' (hd δ' S' p)
theorem dat_at {H : Hp} {xs : List V} {ds : List PyData} {i : Nat} {x : V} (h : DqAll K H xs ds) (e : xs[i]? = some x) : ∃ d, ds[i]? = some d ∧ Dq K H x d := by
  induction ds generalizing xs i with
  | nil =>
    cases h
    simp at e
  | cons d ds ih =>
    cases h with
    | cons h1 h2 =>
      cases i with
      | zero =>
        simp at e
        subst e
        exact ⟨d, rfl, h1⟩
      | succ i =>
        obtain ⟨d', q1, q2⟩ := ih h2 (i := i) (by simpa using e)
        exact ⟨d', by simpa using q1, q2⟩
/-- for x in a list of data -/
theorem ws_list {g : TG} (I : Nat → Dl → Sto → Prop) (ds : List PyData) (h : WE K te δ S fun a S1 => a = .dat (.list ds) ∧ I 0 δ S1)
    (hs : ∀ i d δ' S', ds[i]? = some d → I i δ' S' → WG K g (.dat d) δ' S' fun δ2 S2 => WS K t δ2 S2 { R with nx := I (i + 1), ct := I (i + 1), bk := R.nx }) (hd : ∀ δ' S', I ds.length δ' S' → R.nx δ' S') : WS K (tFor (iList K te) g t) δ S R := fun σ H D rs s f =>
  h σ H _ rs s fun v H1 a S1 g1 r1 ⟨e, h0⟩ => by
    subst e
    cases r1 with
    | @lst a xs _ h1 h2 =>
      have hl := dpAll_len h2
      refine ⟨a, rfl, ⟨xs, SqL.of (msk_ex _ _ h1)⟩, ?_⟩
      refine for_list (K := K) (a := a) (xs := xs) (fun i σ' H' => ∃ δ' S', Go K S1 H1 S' H' ∧ Sl K S' H' σ' δ' ∧ I i δ' S') ⟨δ, S1, Go.refl g1.rs, s.go g1, h0⟩ (fun i σ' H' _ ⟨δ', S', g', _, _⟩ => SqL.of (msk_ex _ _ (g'.ex _ _ h1))) ?_ ?_
      · rintro i x σ' H' hi ⟨δ', S', g', s', p⟩
        obtain ⟨d, e1, e2⟩ := dat_at h2 hi
        refine hs i d δ' S' e1 p _ σ' H' _ g'.rs s' (dp_up g'.ex e2) fun σ2 H2 δ2 S2 g2 s2 w => w σ2 H2 _ g2.rs s2 ?_
        have f2 := (f.go g1).go (g'.trans g2)
        exact ⟨fun σ3 H3 δ3 S3 g3 s3 q => ⟨δ3, S3, (g'.trans g2).trans g3, s3, q⟩, f2.rt, f2.nx, fun σ3 H3 δ3 S3 g3 s3 q => ⟨δ3, S3, (g'.trans g2).trans g3, s3, q⟩⟩
      · rintro σ' H' ⟨δ', S', g', s', p⟩
        rw [hl] at p
        exact f.nx σ' H' δ' S' (g1.trans g') s' (hd δ' S' p)
/-- for x in a tuple of data -/
theorem ws_tuple {g : TG} (I : Nat → Dl → Sto → Prop) (ds : List PyData) (h : WE K te δ S fun a S1 => a = .dat (.tuple ds) ∧ I 0 δ S1)
    (hs : ∀ i d δ' S', ds[i]? = some d → I i δ' S' → WG K g (.dat d) δ' S' fun δ2 S2 => WS K t δ2 S2 { R with nx := I (i + 1), ct := I (i + 1), bk := R.nx }) (hd : ∀ δ' S', I ds.length δ' S' → R.nx δ' S') : WS K (tFor (iTup K te) g t) δ S R := fun σ H D rs s f =>
  h σ H _ rs s fun v H1 a S1 g1 r1 ⟨e, h0⟩ => by
    subst e
    cases r1 with
    | @tup a xs _ h1 h2 =>
      have hl := dpAll_len h2
      refine ⟨a, rfl, ⟨xs, ex_t msk_ex h1⟩, ?_⟩
      refine for_tup (K := K) (a := a) (xs := xs) (fun i σ' H' => ∃ δ' S', Go K S1 H1 S' H' ∧ Sl K S' H' σ' δ' ∧ I i δ' S') ⟨δ, S1, Go.refl g1.rs, s.go g1, h0⟩ (fun i σ' H' _ ⟨δ', S', g', _, _⟩ => ex_t (g'.ex.trans msk_ex) h1) ?_ ?_
      · rintro i x σ' H' hi ⟨δ', S', g', s', p⟩
        obtain ⟨d, e1, e2⟩ := dat_at h2 hi
        refine hs i d δ' S' e1 p _ σ' H' _ g'.rs s' (dp_up g'.ex e2) fun σ2 H2 δ2 S2 g2 s2 w => w σ2 H2 _ g2.rs s2 ?_
        have f2 := (f.go g1).go (g'.trans g2)
        exact ⟨fun σ3 H3 δ3 S3 g3 s3 q => ⟨δ3, S3, (g'.trans g2).trans g3, s3, q⟩, f2.rt, f2.nx, fun σ3 H3 δ3 S3 g3 s3 q => ⟨δ3, S3, (g'.trans g2).trans g3, s3, q⟩⟩
      · rintro σ' H' ⟨δ', S', g', s', p⟩
        rw [hl] at p
        exact f.nx σ' H' δ' S' (g1.trans g') s' (hd δ' S' p)
/-- while -/
theorem ws_while (I : Dl → Sto → Prop) (μ : Dl → Sto → Nat) (h0 : I δ S)
    (hs : ∀ δ' S', I δ' S' → WT K tt δ' S' fun k S1 => if k = true then WS K t δ' S1 { R with nx := fun δ2 S2 => I δ2 S2 ∧ μ δ2 S2 < μ δ' S', ct := fun δ2 S2 => I δ2 S2 ∧ μ δ2 S2 < μ δ' S', bk := R.nx } else R.nx δ' S1) : WS K (tWhile tt t) δ S R := fun σ H D rs s f => by
  refine ⟨fun m σ' H' => ∃ δ' S', m = μ δ' S' ∧ Go K S H S' H' ∧ Sl K S' H' σ' δ' ∧ I δ' S', ⟨_, δ, S, rfl, Go.refl rs, s, h0⟩, ?_⟩
  rintro m σ' H' ⟨δ', S', rfl, g', s', p⟩
  refine hs δ' S' p σ' H' _ g'.rs s' fun b H1 S1 g1 w => ?_
  cases b with
  | true =>
    refine iteT ⟨fun σ2 H2 => ∃ δ2 S2, Go K S H S2 H2 ∧ Sl K S2 H2 σ2 δ2 ∧ I δ2 S2 ∧ μ δ2 S2 < μ δ' S', fun σ2 H2 ⟨δ2, S2, q1, q2, q3, q4⟩ => ⟨_, q4, δ2, S2, rfl, q1, q2, q3⟩, ?_⟩
    have f2 := f.go (g'.trans g1)
    exact w σ' H1 _ g1.rs (s'.go g1) ⟨fun σ3 H3 δ3 S3 g3 s3 q => ⟨δ3, S3, (g'.trans g1).trans g3, s3, q.1, q.2⟩, f2.rt, f2.nx, fun σ3 H3 δ3 S3 g3 s3 q => ⟨δ3, S3, (g'.trans g1).trans g3, s3, q.1, q.2⟩⟩
  | false => exact iteF (f.nx σ' H1 δ' S1 (g'.trans g1) (s'.go g1) w)
end
end Ov
namespace Ov
open PySem PySem.Spec PyProof.Rows L2
/-! ## operations over data -/
/-- what a value reads as, now -/
def Nw (S : Sto) : AV → PyData → Prop
  | .dat d, e => d = e
  | .own p, e => ∃ ds, S p = some (.lst (dats ds)) ∧ e = .list ds
  | .ty _, _ => False
  | .scr _, _ => False
  | .cv _, _ => False
theorem nw_dat {S : Sto} {d : PyData} : Nw S (.dat d) d := rfl
theorem nw_own {S : Sto} {p : Addr} {ds : List PyData} (h : S p = some (.lst (dats ds))) : Nw S (.own p) (.list ds) := ⟨ds, h, rfl⟩
section
variable {K : PySem.W.Frag} {S : Sto} {H : Hp} {v x y : V} {a b : AV} {d e : PyData} {P : Po}
theorem Nw.dq (n : Nw S a d) (rs : RS K S H) (r : RA K S H v a) : Dq K H v d := by
  cases a with
  | dat d' =>
    have e : d' = d := n
    subst e
    exact dp_up msk_ex r
  | own p =>
    obtain ⟨ds, h, rfl⟩ := n
    have e : v = .ref p := r
    subst e
    obtain ⟨xs, h1, h2⟩ := rs p _ h
    exact .lst h1 (dpAll_up msk_ex h2.to_dp)
  | ty n' => exact n.elim
  | scr ns => exact n.elim
  | cv c => exact n.elim
theorem Nw.dp (z : d.hasDict = false) (n : Nw S a d) (rs : RS K S H) (r : RA K S H v a) : Dp K H v d := dq_dp z (n.dq rs r)
theorem shaped_nod (h : SeqAt.shaped d = true) : d.hasDict = false := by
  unfold SeqAt.shaped at h
  rw [Bool.and_eq_true] at h
  exact PyData.hasDict_of_canLay d h.1
/-- a list to be read: its items are data -/
theorem Nw.list {ds : List PyData} (n : Nw S a (.list ds)) (rs : RS K S H) (r : RA K S H v a) : ∃ p xs, v = .ref p ∧ H p = some (.lst xs) ∧ DqAll K (msk S H) xs ds := by
  cases a with
  | dat d' =>
    have e : d' = .list ds := n
    subst e
    cases r with
    | lst h1 h2 => exact ⟨_, _, rfl, msk_ex _ _ h1, h2⟩
  | own p =>
    obtain ⟨ds', h, e⟩ := n
    injection e with e
    subst e
    have e : v = .ref p := r
    subst e
    obtain ⟨xs, h1, h2⟩ := rs p _ h
    exact ⟨p, xs, rfl, h1, h2.to_dp⟩
  | ty n' => exact n.elim
  | scr ns => exact n.elim
  | cv c => exact n.elim
theorem Nw.tup {ds : List PyData} (n : Nw S a (.tuple ds)) (rs : RS K S H) (r : RA K S H v a) : ∃ p xs, v = .ref p ∧ SqT K (msk S H) p xs ∧ DqAll K (msk S H) xs ds := by
  cases a with
  | dat d' =>
    have e : d' = .tuple ds := n
    subst e
    cases r with
    | tup h1 h2 => exact ⟨_, _, rfl, h1, h2⟩
  | own p =>
    obtain ⟨ds', h, e⟩ := n
    cases e
  | ty n' => exact n.elim
  | scr ns => exact n.elim
  | cv c => exact n.elim
/-- the end of a rule that gives data and changes nothing -/
theorem fin_d (rs : RS K S H) {Q : VK} (k : ∀ v H' c S', Go K S H S' H' → RA K S' H' v c → P c S' → Q v H') (h : Dq K (msk S H) v d) (p : P (.dat d) S) : Q v H := k v H (.dat d) S (Go.refl rs) h p
theorem fin_newL (rs : RS K S H) {Q : VK} {ds : List PyData} {xs : List V} (k : ∀ v H' c S', Go K S H S' H' → RA K S' H' v c → P c S' → Q v H') (h : DqAll K (msk S H) xs ds) (p : P (.dat (.list ds)) S) {q : Addr} (hq : H q = none) : Q (.ref q) (upd H q (.lst xs)) := by
  have g := Go.new (o := .lst xs) rs hq
  exact k _ _ (.dat (.list ds)) S g (Dq.lst (msk_new rs hq) (dpAll_up g.ex h)) p
theorem fin_newO (rs : RS K S H) {Q : VK} {ds : List PyData} {xs : List V} (k : ∀ v H' c S', Go K S H S' H' → RA K S' H' v c → P c S' → Q v H') (h : DqAll K (msk S H) xs ds) {q : Addr} (hq : H q = none) (p : S q = none → P (.own q) (S.set q (.lst (dats ds)))) : Q (.ref q) (upd H q (.lst xs)) :=
  k _ _ (.own q) _ (go_lst rs (RAs.of_dp h) hq) rfl (p (rs.none_of hq))
theorem fin_newT (rs : RS K S H) {Q : VK} {ds : List PyData} {xs : List V} (k : ∀ v H' c S', Go K S H S' H' → RA K S' H' v c → P c S' → Q v H') (h : DqAll K (msk S H) xs ds) (p : P (.dat (.tuple ds)) S) {q : Addr} (hq : H q = none) : Q (.ref q) (upd H q (.tup xs)) := by
  have g := Go.new (o := .tup xs) rs hq
  exact k _ _ (.dat (.tuple ds)) S g (Dq.tup (SqT.of (msk_new rs hq)) (dpAll_up g.ex h)) p
theorem dqAll_app : ∀ {xs ys : List V} {ds es : List PyData}, DqAll K H xs ds → DqAll K H ys es → DqAll K H (xs ++ ys) (ds ++ es)
  | _, _, [], _, h, t => by cases h; exact t
  | _, _, d :: ds, _, h, t => by
    cases h with
    | cons h1 h2 => exact .cons h1 (dqAll_app h2 t)
theorem dqAll_take : ∀ (n : Nat) {xs : List V} {ds : List PyData}, DqAll K H xs ds → DqAll K H (xs.take n) (ds.take n)
  | 0, _, _, _ => .nil
  | n + 1, _, [], h => by cases h; exact .nil
  | n + 1, _, d :: ds, h => by
    cases h with
    | cons h1 h2 => exact .cons h1 (dqAll_take n h2)
theorem dqAll_drop : ∀ (n : Nat) {xs : List V} {ds : List PyData}, DqAll K H xs ds → DqAll K H (xs.drop n) (ds.drop n)
  | 0, _, _, h => h
  | n + 1, _, [], h => by cases h; exact .nil
  | n + 1, _, d :: ds, h => by
    cases h with
    | cons h1 h2 => exact dqAll_drop n h2
theorem dqAll_rev : ∀ {xs : List V} {ds : List PyData}, DqAll K H xs ds → DqAll K H xs.reverse ds.reverse
  | _, [], h => by cases h; exact .nil
  | _, d :: ds, h => by
    cases h with
    | cons h1 h2 => rw [List.reverse_cons, List.reverse_cons]; exact dqAll_app (dqAll_rev h2) (.cons h1 .nil)
theorem dqAll_get {i : Nat} {d : PyData} : ∀ {xs : List V} {ds : List PyData} {i : Nat} {d : PyData}, DqAll K H xs ds → ds[i]? = some d → ∃ v, xs[i]? = some v ∧ Dq K H v d
  | _, [], _, _, h, e => by simp at e
  | _, c :: ds, i, d, h, e => by
    cases h with
    | cons h1 h2 =>
      cases i with
      | zero =>
        simp at e
        subst e
        exact ⟨_, rfl, h1⟩
      | succ i =>
        obtain ⟨v, q1, q2⟩ := dqAll_get (i := i) (d := d) h2 (by simpa using e)
        exact ⟨v, by simpa using q1, q2⟩
/-! ### + - * // % ** -/
def rAddS : R2 := fun x y H Q => ∃ i j, x = .str i ∧ y = .str j ∧ i.length + j.length ≤ sizeLine ∧ Q (.str (i ++ j)) H
def rAddA (K : PySem.W.Frag) : R2 := fun x y H Q => rI0 (fun i j => .int (i + j)) x y H Q ∨ (rAddS x y H Q ∨ (rCat x y H Q ∨ rCatA K x y H Q))
theorem op_addA {X : Cx} : OpR X (binaryOp .Add) (rAddA X.K) := op_add.or (op_add_str.or (op_cat.or op_catA))
theorem w2_addI {i j : Int} (p : P (.dat (.int (i + j))) S) : W2 K (rAddA K) (.dat (.int i)) (.dat (.int j)) S P := fun x y H Q rs ra rb k => by
  cases ra; cases rb
  exact .inl ⟨i, j, rfl, rfl, fin_d rs k (Dq.int _) p⟩
theorem w2_addS {i j : Str} (hl : i.length + j.length ≤ 1000000) (p : P (.dat (.str (i ++ j))) S) : W2 K (rAddA K) (.dat (.str i)) (.dat (.str j)) S P := fun x y H Q rs ra rb k => by
  cases ra; cases rb
  exact .inr (.inl ⟨i, j, rfl, rfl, Nat.le_trans hl (by decide), fin_d rs k (Dq.str _) p⟩)
theorem w2_addL {ds es : List PyData} (na : Nw S a (.list ds)) (nb : Nw S b (.list es)) (hl : ds.length + es.length ≤ 1000000) (p : P (.dat (.list (ds ++ es))) S) : W2 K (rAddA K) a b S P := fun x y H Q rs ra rb k => by
  obtain ⟨p1, xs, rfl, h1, h2⟩ := na.list rs ra
  obtain ⟨p2, ys, rfl, h3, h4⟩ := nb.list rs rb
  refine .inr (.inr (.inl ⟨p1, p2, xs, ys, rfl, rfl, h1, h3, ?_, fun q hq => fin_newL rs k (dqAll_app h2 h4) p hq⟩))
  rw [dpAll_len h2, dpAll_len h4]
  exact Nat.le_trans hl (by decide)
theorem w2_addLO {ds es : List PyData} (na : Nw S a (.list ds)) (nb : Nw S b (.list es)) (hl : ds.length + es.length ≤ 1000000) (p : ∀ q, S q = none → P (.own q) (S.set q (.lst (dats (ds ++ es))))) : W2 K (rAddA K) a b S P := fun x y H Q rs ra rb k => by
  obtain ⟨p1, xs, rfl, h1, h2⟩ := na.list rs ra
  obtain ⟨p2, ys, rfl, h3, h4⟩ := nb.list rs rb
  refine .inr (.inr (.inl ⟨p1, p2, xs, ys, rfl, rfl, h1, h3, ?_, fun q hq => fin_newO rs k (dqAll_app h2 h4) hq (p q)⟩))
  rw [dpAll_len h2, dpAll_len h4]
  exact Nat.le_trans hl (by decide)
theorem w2_addT {ds es : List PyData} (hl : ds.length + es.length ≤ 1000000) (p : P (.dat (.tuple (ds ++ es))) S) : W2 K (rAddA K) (.dat (.tuple ds)) (.dat (.tuple es)) S P := fun x y H Q rs ra rb k => by
  obtain ⟨p1, xs, rfl, h1, h2⟩ := Nw.tup (nw_dat) rs ra
  obtain ⟨p2, ys, rfl, h3, h4⟩ := Nw.tup (nw_dat) rs rb
  refine .inr (.inr (.inr ⟨p1, p2, xs, ys, rfl, rfl, ex_t msk_ex h1, ex_t msk_ex h3, ?_, fun e => ?_, fun e1 e2 => ?_, fun e1 e2 q hq => fin_newT rs k (dqAll_app h2 h4) p hq⟩))
  · rw [dpAll_len h2, dpAll_len h4]
    exact Nat.le_trans hl (by decide)
  · subst e
    cases h2
    exact fin_d rs k (Dq.tup h3 h4) p
  · subst e2
    cases h4
    refine fin_d rs k (Dq.tup h1 h2) ?_
    rw [List.append_nil] at p
    exact p
def rMulA : R2 := fun x y H Q => rI CMul (fun i j => .int (i * j)) x y H Q ∨ rRep x y H Q
theorem op_mulA {X : Cx} : OpR X (binaryOp .Mult) rMulA := op_mul.or op_rep
theorem w2_mulI {i j : Int} (h : (-(2 ^ 64) < i ∧ i < 2 ^ 64) ∨ (-(2 ^ 64) < j ∧ j < 2 ^ 64)) (p : P (.dat (.int (i * j))) S) : W2 K rMulA (.dat (.int i)) (.dat (.int j)) S P := fun x y H Q rs ra rb k => by
  cases ra; cases rb
  exact .inl ⟨i, j, rfl, rfl, h, fin_d rs k (Dq.int _) p⟩
theorem dqAll_rep {xs : List V} {ds : List PyData} (h : DqAll K H xs ds) : ∀ n : Nat, DqAll K H (List.replicate n xs).flatten (List.replicate n ds).flatten
  | 0 => .nil
  | n + 1 => by
    rw [List.replicate_succ, List.replicate_succ, List.flatten_cons, List.flatten_cons]
    exact dqAll_app h (dqAll_rep h n)
theorem w2_repL {ds : List PyData} {n : Int} (na : Nw S a (.list ds)) (h0 : 0 ≤ n) (h1 : n ≤ 1000) (hl : ds.length ≤ 1000) (p : P (.dat (.list (List.replicate n.toNat ds).flatten)) S) : W2 K rMulA a (.dat (.int n)) S P := fun x y H Q rs ra rb k => by
  obtain ⟨p1, xs, rfl, e1, e2⟩ := na.list rs ra
  cases rb
  refine .inr ⟨p1, n, xs, rfl, rfl, e1, by omega, by omega, ?_, fun q hq => fin_newL rs k (dqAll_rep e2 _) p hq⟩
  have hlen := dpAll_len e2
  have : xs.length * n.toNat ≤ 1000 * 1000 := Nat.mul_le_mul (by omega) (by omega)
  exact Nat.le_trans this (by decide)
theorem w2_sub {i j : Int} (p : P (.dat (.int (i - j))) S) : W2 K (rI0 fun i j => .int (i - j)) (.dat (.int i)) (.dat (.int j)) S P := fun x y H Q rs ra rb k => by
  cases ra; cases rb
  exact ⟨i, j, rfl, rfl, fin_d rs k (Dq.int _) p⟩
theorem w2_mod {i j : Int} (h : 0 < j) (p : P (.dat (.int (i % j))) S) : W2 K (rI (fun _ j => j ≠ 0) fun i j => .int (i.fmod j)) (.dat (.int i)) (.dat (.int j)) S P := fun x y H Q rs ra rb k => by
  cases ra; cases rb
  refine ⟨i, j, rfl, rfl, by omega, ?_⟩
  have e : i.fmod j = i % j := Int.fmod_eq_emod_of_nonneg i (by omega)
  show Q (.int (i.fmod j)) H
  rw [e]
  exact fin_d rs k (Dq.int _) p
theorem w2_fdiv {i j : Int} (h : 0 < j) (h2 : j < 1073741824) (p : P (.dat (.int (i / j))) S) : W2 K (rI CDivN fun i j => .int (i.fdiv j)) (.dat (.int i)) (.dat (.int j)) S P := fun x y H Q rs ra rb k => by
  cases ra; cases rb
  refine ⟨i, j, rfl, rfl, ⟨by omega, by omega⟩, ?_⟩
  have e : i.fdiv j = i / j := Int.fdiv_eq_ediv_of_nonneg i (by omega)
  show Q (.int (i.fdiv j)) H
  rw [e]
  exact fin_d rs k (Dq.int _) p
theorem w2_pow {i j : Int} (h : 0 ≤ j ∧ j ≤ 1000000 ∧ i.natAbs < 2 ^ 64) (p : P (.dat (.int (i ^ j.toNat))) S) : W2 K (rI CPow fun i j => .int (i ^ j.toNat)) (.dat (.int i)) (.dat (.int j)) S P := fun x y H Q rs ra rb k => by
  cases ra; cases rb
  exact ⟨i, j, rfl, rfl, h, fin_d rs k (Dq.int _) p⟩
theorem w1_neg {i : Int} (p : P (.dat (.int (-i))) S) : W1 K (rU fun i => .int (-i)) (.dat (.int i)) S P := fun x H Q rs ra k => by
  cases ra
  exact ⟨i, rfl, fin_d rs k (Dq.int _) p⟩
/-! ### comparisons -/
def rEqA (K : PySem.W.Frag) : R2 := fun x y H Q => rEqD K x y H Q ∨ rEq x y H Q
def rNeA (K : PySem.W.Frag) : R2 := fun x y H Q => rNeD K x y H Q ∨ rNe x y H Q
theorem op_eqA {X : Cx} (hu : X.A.units + 64 < cLine) : OpR X (compareOp .Eq) (rEqA X.K) := (op_eqD hu).or op_eq
theorem op_neA {X : Cx} (hu : X.A.units + 64 < cLine) : OpR X (compareOp .NotEq) (rNeA X.K) := (op_neD hu).or op_ne
theorem w2_eq (na : Nw S a d) (nb : Nw S b e) (sd : SeqAt.shaped d = true) (se : SeqAt.shaped e = true) (p : P (.dat (.bool (PyData.eqv d e))) S) : W2 K (rEqA K) a b S P := fun x y H Q rs ra rb k =>
  .inl ⟨d, e, na.dp (shaped_nod sd) rs ra, nb.dp (shaped_nod se) rs rb, sd, se, fin_d rs k (Dq.bl _) p⟩
theorem w2_ne (na : Nw S a d) (nb : Nw S b e) (sd : SeqAt.shaped d = true) (se : SeqAt.shaped e = true) (p : P (.dat (.bool (!PyData.eqv d e))) S) : W2 K (rNeA K) a b S P := fun x y H Q rs ra rb k =>
  .inl ⟨d, e, na.dp (shaped_nod sd) rs ra, nb.dp (shaped_nod se) rs rb, sd, se, fin_d rs k (Dq.bl _) p⟩
theorem w2_eqS {i j : Str} (p : P (.dat (.bool (decide (i = j)))) S) : W2 K (rEqA K) (.dat (.str i)) (.dat (.str j)) S P := fun x y H Q rs ra rb k => by
  cases ra; cases rb
  refine .inr ⟨rfl, ?_⟩
  have e : decide (V.str i = V.str j) = decide (i = j) := by simp
  rw [e]
  exact fin_d rs k (Dq.bl _) p
theorem w2_neS {i j : Str} (p : P (.dat (.bool (!decide (i = j)))) S) : W2 K (rNeA K) (.dat (.str i)) (.dat (.str j)) S P := fun x y H Q rs ra rb k => by
  cases ra; cases rb
  refine .inr ⟨rfl, ?_⟩
  have e : decide (V.str i = V.str j) = decide (i = j) := by simp
  rw [e]
  exact fin_d rs k (Dq.bl _) p
theorem w2_eqI {i j : Int} (p : P (.dat (.bool (decide (i = j)))) S) : W2 K (rEqA K) (.dat (.int i)) (.dat (.int j)) S P := fun x y H Q rs ra rb k => by
  cases ra; cases rb
  refine .inr ⟨rfl, ?_⟩
  have e : decide (V.int i = V.int j) = decide (i = j) := by simp
  rw [e]
  exact fin_d rs k (Dq.bl _) p
theorem w2_neI {i j : Int} (p : P (.dat (.bool (!decide (i = j)))) S) : W2 K (rNeA K) (.dat (.int i)) (.dat (.int j)) S P := fun x y H Q rs ra rb k => by
  cases ra; cases rb
  refine .inr ⟨rfl, ?_⟩
  have e : decide (V.int i = V.int j) = decide (i = j) := by simp
  rw [e]
  exact fin_d rs k (Dq.bl _) p
theorem w2_I0 {g : Int → Int → Bool} {i j : Int} (p : P (.dat (.bool (g i j))) S) : W2 K (rI0 fun i j => .bl (g i j)) (.dat (.int i)) (.dat (.int j)) S P := fun x y H Q rs ra rb k => by
  cases ra; cases rb
  exact ⟨i, j, rfl, rfl, fin_d rs k (Dq.bl _) p⟩
def isNone : PyData → Bool
  | .none => true
  | _ => false
theorem dq_none {h : Dq K H v d} : decide (v = .non) = isNone d := by
  cases h <;> first | rfl | (simp [isNone])
/-! ### isinstance, len -/
theorem wc_len {n : Nat} (h : (∃ ds, Nw S a (.list ds) ∧ n = ds.length) ∨ (∃ ds, Nw S a (.tuple ds) ∧ n = ds.length) ∨ ∃ z, a = .dat (.str z) ∧ z.length ≤ 1000000 ∧ n = z.length) (p : P (.dat (.int n)) S) :
    WC K (fun xs H Q => ∃ x n, xs = [x] ∧ LenV K x H n ∧ Q (.int n) H) [a] S P := fun xs H Q rs ra k => by
  cases ra with
  | cons r1 r2 =>
    cases r2
    rcases h with ⟨ds, h, rfl⟩ | ⟨ds, h, rfl⟩ | ⟨z, rfl, hz, rfl⟩
    · obtain ⟨p1, xs, rfl, e1, e2⟩ := h.list rs r1
      exact ⟨_, _, rfl, .inl ⟨xs, SqL.of e1, (dpAll_len e2).symm⟩, fin_d rs k (Dq.int _) p⟩
    · obtain ⟨p1, xs, rfl, e1, e2⟩ := h.tup rs r1
      exact ⟨_, _, rfl, .inr ⟨xs, ex_t msk_ex e1, (dpAll_len e2).symm⟩, fin_d rs k (Dq.int _) p⟩
    · cases r1
      exact ⟨_, _, rfl, ⟨Nat.le_trans hz (by decide), rfl⟩, fin_d rs k (Dq.int _) p⟩
theorem wc_abs {i : Int} (p : P (.dat (.int (if i < 0 then -i else i))) S) : WC K (fun xs H Q => ∃ i, xs = [.int i] ∧ Q (.int (if i < 0 then -i else i)) H) [.dat (.int i)] S P := fun xs H Q rs ra k => by
  cases ra with
  | cons r1 r2 =>
    cases r2
    cases r1
    exact ⟨i, rfl, fin_d rs k (Dq.int _) p⟩
theorem wc_max {i j : Int} (p : P (.dat (.int (if j > i then j else i))) S) : WC K (fun xs H Q => ∃ i j, xs = [.int i, .int j] ∧ Q (.int (if j > i then j else i)) H) [.dat (.int i), .dat (.int j)] S P := fun xs H Q rs ra k => by
  cases ra with
  | cons r1 r2 =>
    cases r1
    cases r2 with
    | cons r3 r4 =>
      cases r3
      cases r4
      exact ⟨i, j, rfl, fin_d rs k (Dq.int _) p⟩
theorem wc_intB {c : Bool} (p : P (.dat (.int (if c then 1 else 0))) S) : WC K (fun xs H Q => (∃ i, xs = [.int i] ∧ Q (.int i) H) ∨ ∃ k, xs = [.bl k] ∧ Q (.int (if k then 1 else 0)) H) [.dat (.bool c)] S P := fun xs H Q rs ra k => by
  cases ra with
  | cons r1 r2 =>
    cases r2
    cases r1
    exact .inr ⟨c, rfl, fin_d rs k (Dq.int _) p⟩
/-! ### items -/
theorem w2_ixL {ds : List PyData} {i : Nat} {d : PyData} (na : Nw S a (.list ds)) (e : ds[i]? = some d) (p : P (.dat d) S) : W2 K (rIx K) a (.dat (.int i)) S P := fun x y H Q rs ra rb k => by
  obtain ⟨p1, xs, rfl, h1, h2⟩ := na.list rs ra
  cases rb
  obtain ⟨v, q1, q2⟩ := dqAll_get (i := i) (d := d) h2 e
  exact .inl ⟨p1, xs, i, v, rfl, rfl, SqL.of h1, atI_nat q1, fin_d rs k q2 p⟩
theorem w2_ixT {ds : List PyData} {i : Nat} {d : PyData} (e : ds[i]? = some d) (p : P (.dat d) S) : W2 K (rIx K) (.dat (.tuple ds)) (.dat (.int i)) S P := fun x y H Q rs ra rb k => by
  obtain ⟨p1, xs, rfl, h1, h2⟩ := Nw.tup nw_dat rs ra
  cases rb
  obtain ⟨v, q1, q2⟩ := dqAll_get (i := i) (d := d) h2 e
  exact .inr (.inl ⟨p1, xs, i, v, rfl, rfl, ex_t msk_ex h1, atI_nat q1, fin_d rs k q2 p⟩)
theorem w2_ixS {z : Str} {i : Nat} {c : Nat} (hz : z.length ≤ 1000000) (e : z.cps.toList[i]? = some c) (p : P (.dat (.str ⟨#[c]⟩)) S) : W2 K (rIx K) (.dat (.str z)) (.dat (.int i)) S P := fun x y H Q rs ra rb k => by
  cases ra; cases rb
  exact .inr (.inr ⟨z, i, c, rfl, rfl, Nat.le_trans hz (by decide), atI_nat e, fin_d rs k (Dq.str _) p⟩)
/-! ### slices -/
def cutD (ds : List PyData) (lo hi : Option Int) : List PyData := (ds.drop (HT.sIx ds.length 0 lo)).take (HT.sIx ds.length ds.length hi - HT.sIx ds.length 0 lo)
theorem dqAll_cut {xs : List V} {ds : List PyData} (h : DqAll K H xs ds) (lo hi : Option Int) : DqAll K H (cutV xs lo hi) (cutD ds lo hi) := by
  unfold cutV cutD
  rw [dpAll_len h]
  exact dqAll_take _ (dqAll_drop _ h)
def rSlAny (K : PySem.W.Frag) : V → Option Int → Option Int → Hp → VK → Prop := fun x lo hi H Q => rSlL K x lo hi H Q ∨ (rSlS x lo hi H Q ∨ rSlA K x lo hi H Q)
theorem sl_any {X : Cx} : SlR X (rSlAny X.K) := sl_list.or (sl_str.or sl_tupA)
theorem wl_L {ds : List PyData} {lo hi : Option Int} (na : Nw S a (.list ds)) (p : P (.dat (.list (cutD ds lo hi))) S) : WL K (rSlAny K) a lo hi S P := fun x H Q rs ra k => by
  obtain ⟨p1, xs, rfl, h1, h2⟩ := na.list rs ra
  exact .inl ⟨p1, xs, rfl, SqL.of h1, fun q hq => fin_newL rs k (dqAll_cut h2 lo hi) p hq⟩
theorem wl_S {z : Str} {lo hi : Option Int} (hz : z.length ≤ 1000000) (p : P (.dat (.str (cutS z lo hi))) S) : WL K (rSlAny K) (.dat (.str z)) lo hi S P := fun x H Q rs ra k => by
  cases ra
  exact .inr (.inl ⟨z, rfl, Nat.le_trans hz (by decide), fin_d rs k (Dq.str _) p⟩)
theorem dq_ints : ∀ (ns : List Int), DqAll K H (ns.map V.int) (ns.map PyData.int)
  | [] => .nil
  | n :: ns => .cons (Dq.int n) (dq_ints ns)
theorem wl_scr {ns : List Int} {lo hi : Option Int} (p : P (.dat (.list (cutD (ns.map PyData.int) lo hi))) S) : WL K (rSlAny K) (.scr ns) lo hi S P := fun x H Q rs ra k => by
  obtain ⟨a, rfl, h⟩ := ra
  exact .inl ⟨a, _, rfl, ex_l msk_ex h, fun q hq => fin_newL rs k (dqAll_cut (dq_ints ns) lo hi) p hq⟩
theorem cutD_whole {ds : List PyData} {lo hi : Option Int} (h : HT.sIx ds.length 0 lo = 0 ∧ HT.sIx ds.length ds.length hi = ds.length) : cutD ds lo hi = ds := by
  unfold cutD
  rw [h.1, h.2, List.drop_zero, Nat.sub_zero, List.take_length]
theorem wl_T {ds : List PyData} {lo hi : Option Int} (p : P (.dat (.tuple (cutD ds lo hi))) S) : WL K (rSlAny K) (.dat (.tuple ds)) lo hi S P := fun x H Q rs ra k => by
  obtain ⟨p1, xs, rfl, h1, h2⟩ := Nw.tup nw_dat rs ra
  refine .inr (.inr ⟨p1, xs, rfl, ex_t msk_ex h1, fun e => ?_, fun _ q hq => fin_newT rs k (dqAll_cut h2 lo hi) p hq⟩)
  rw [dpAll_len h2] at e
  rw [cutD_whole e] at p
  exact fin_d rs k (Dq.tup h1 h2) p
variable {te : TE} {tl th : TO} {δ : Dl}
theorem wo_none {P : Option Int → Sto → Prop} (p : P none S) : WO K tNoPart δ S P := fun σ H Q rs s k => k none H S (Go.refl rs) p
theorem wo_some {P : Option Int → Sto → Prop} (h : WE K te δ S fun a S1 => ∃ i, a = .dat (.int i) ∧ P (some i) S1) : WO K (tPart te) δ S P := fun σ H Q rs s k =>
  h σ H _ rs s fun x H1 a S1 g1 r1 ⟨i, e, p⟩ => by
    subst e
    cases r1
    exact ⟨i, rfl, k (some i) H1 S1 g1 p⟩
theorem we_sl {r : V → Option Int → Option Int → Hp → VK → Prop} (h : WE K te δ S fun a S1 => WO K tl δ S1 fun lo S2 => WO K th δ S2 fun hi S3 => WL K r a lo hi S3 P) : WE K (tSl r te tl th) δ S P := fun σ H Q rs s k =>
  h σ H _ rs s fun x H1 a S1 g1 r1 w => w σ H1 _ g1.rs (s.go g1) fun lo H2 S2 g2 w2 => w2 σ H2 _ g2.rs ((s.go g1).go g2) fun hi H3 S3 g3 w3 =>
    w3 x H3 Q g3.rs ((r1.go g2).go g3) fun v H' c S' g => k v H' c S' (((g1.trans g2).trans g3).trans g)
theorem we_rev {ds : List PyData} (h : WE K te δ S fun a S1 => ∃ ds, Nw S1 a (.list ds) ∧ P (.dat (.list ds.reverse)) S1) : WE K (tRevL K te) δ S P := fun σ H Q rs s k =>
  h σ H _ rs s fun x H1 a S1 g1 r1 ⟨ds, n, p⟩ => by
    obtain ⟨p1, xs, rfl, h1, h2⟩ := n.list g1.rs r1
    exact ⟨p1, xs, rfl, SqL.of h1, fun q hq => fin_newL g1.rs (fun v H' c S' g => k v H' c S' (g1.trans g)) (dqAll_rev h2) p hq⟩
end
end Ov
namespace Ov
open PySem PySem.Spec PyProof.Rows L2
section
variable {K : PySem.W.Frag} {S : Sto} {H : Hp} {v x y : V} {a b : AV} {d e : PyData} {P : Po} {te ta tb td ty tv : TE} {tas : TA} {δ : Dl} {R : Rr}
/-! ## lists that are changed -/
theorem we_append (h : WE K te δ S fun a S1 => ∃ l, a = .own l ∧ (∃ as, S1 l = some (.lst as)) ∧ WA K tas δ S1 fun bs S2 => ∃ b xs, bs = [b] ∧ S2 l = some (.lst xs) ∧ xs.length ≤ 1000000 ∧ P (.dat .none) (S2.set l (.lst (xs ++ [b])))) :
    WE K (tBM K "list" rAppend te tas) δ S P := fun σ H Q rs s k =>
  h σ H _ rs s fun x H1 a S1 g1 r1 ⟨l, e, ⟨as0, ho⟩, w⟩ => by
    subst e
    cases r1
    obtain ⟨xs0, hx0, _⟩ := g1.rs l _ ho
    refine ⟨.inl ⟨rfl, xs0, SqL.of hx0⟩, w σ H1 _ g1.rs (s.go g1) fun vs H2 bs S2 g2 r2 ⟨b, as, e1, e2, hz, p⟩ => ?_⟩
    subst e1
    obtain ⟨xs, q1, q2⟩ := g2.rs l _ e2
    cases r2 with
    | cons rb r3 =>
      cases r3
      refine ⟨l, xs, _, rfl, rfl, q1, ?_, ?_⟩
      · rw [q2.len]
        exact Nat.lt_of_le_of_lt hz (by decide)
      · exact k _ _ (.dat .none) _ ((g1.trans g2).trans (put_lst g2.rs (q2.app (.cons rb .nil)) (by rw [e2]; rfl))) Dq.non p
theorem RAs.take : ∀ {vs : List V} {as : List AV} (i : Nat), RAs K S H vs as → RAs K S H (vs.take i) (as.take i)
  | _, _, 0, _ => .nil
  | _, _, _ + 1, .nil => .nil
  | _, _, i + 1, .cons r t => .cons r (RAs.take i t)
/-- xs.pop() -/
theorem we_pop (h : WE K te δ S fun a S1 => ∃ l xs b, a = .own l ∧ S1 l = some (.lst (xs ++ [b])) ∧ P b (S1.set l (.lst xs))) : WE K (tBM0 K "list" rPop te) δ S P := fun σ H Q rs s k =>
  h σ H _ rs s fun x H1 a S1 g1 r1 ⟨l, as, b, e, hl, p⟩ => by
    subst e
    cases r1
    obtain ⟨xs, q1, q2⟩ := g1.rs l _ hl
    obtain ⟨y, hy, ry⟩ := q2.get (i := as.length) (a := b) (by simp)
    have hlen : xs.length = as.length + 1 := by rw [q2.len]; simp
    refine ⟨.inl ⟨rfl, xs, SqL.of q1⟩, l, xs, y, rfl, rfl, q1, by rw [hlen]; simpa using hy, ?_⟩
    have q3 : RAs K S1 H1 xs.dropLast as := by
      have z := RAs.take as.length q2
      rw [List.dropLast_eq_take, hlen]
      simpa using z
    have g2 := put_lst (p := l) g1.rs q3 (by rw [hl]; rfl)
    exact k _ _ b _ (g1.trans g2) (ry.go g2) p
theorem RAs.erase : ∀ {vs : List V} {as : List AV} (i : Nat), RAs K S H vs as → RAs K S H (vs.eraseIdx i) (as.eraseIdx i)
  | _, _, _, .nil => .nil
  | _, _, 0, .cons _ t => t
  | _, _, i + 1, .cons r t => .cons r (RAs.erase i t)
/-- xs.pop(i) -/
theorem we_popAt (h : WE K te δ S fun a S1 => ∃ l, a = .own l ∧ (∃ as, S1 l = some (.lst as)) ∧ WA K tas δ S1 fun bs S2 => ∃ (i : Nat) (xs : List AV) (c : AV), bs = [.dat (.int i)] ∧ S2 l = some (.lst xs) ∧ xs.length ≤ 1000000 ∧ xs[i]? = some c ∧ P c (S2.set l (.lst (xs.eraseIdx i)))) :
    WE K (tBM K "list" rPopAt te tas) δ S P := fun σ H Q rs s k =>
  h σ H _ rs s fun x H1 a S1 g1 r1 ⟨l, e, ⟨as0, ho⟩, w⟩ => by
    subst e
    cases r1
    obtain ⟨xs0, hx0, _⟩ := g1.rs l _ ho
    refine ⟨.inl ⟨rfl, xs0, SqL.of hx0⟩, w σ H1 _ g1.rs (s.go g1) fun vs H2 bs S2 g2 r2 ⟨i, as, c, e1, e2, hz, hc, p⟩ => ?_⟩
    subst e1
    obtain ⟨xs, q1, q2⟩ := g2.rs l _ e2
    cases r2 with
    | cons rb r3 =>
      cases r3
      cases rb
      obtain ⟨y, hy, ry⟩ := q2.get hc
      have hi : i < xs.length := (List.getElem?_eq_some_iff.mp hy).1
      have hlen := q2.len
      refine ⟨l, xs, i, i, y, rfl, rfl, q1, by omega, by omega, ?_, hy, ?_⟩
      · unfold seqIndex?
        have h0 : ¬ ((i : Int) < 0) := by omega
        simp only [h0, if_false]
        have h1 : (decide ((0 : Int) ≤ (i : Int)) && decide ((i : Int) < (xs.length : Int))) = true := by
          rw [Bool.and_eq_true]
          exact ⟨decide_eq_true (by omega), decide_eq_true (by omega)⟩
        rw [if_pos h1]
        rfl
      · have g3 := put_lst (p := l) g2.rs (q2.erase i) (by rw [e2]; rfl)
        exact k _ _ c _ ((g1.trans g2).trans g3) (ry.go g3) p
theorem we_extend (h : WE K te δ S fun a S1 => ∃ l, a = .own l ∧ (∃ as, S1 l = some (.lst as)) ∧ WA K tas δ S1 fun bs S2 => ∃ b ds xs, bs = [b] ∧ Nw S2 b (.list ds) ∧ S2 l = some (.lst xs) ∧ xs.length + ds.length ≤ 1000000 ∧ P (.dat .none) (S2.set l (.lst (xs ++ dats ds)))) :
    WE K (tBM K "list" rExtend te tas) δ S P := fun σ H Q rs s k =>
  h σ H _ rs s fun x H1 a S1 g1 r1 ⟨l, e, ⟨as0, ho⟩, w⟩ => by
    subst e
    cases r1
    obtain ⟨xs0, hx0, _⟩ := g1.rs l _ ho
    refine ⟨.inl ⟨rfl, xs0, SqL.of hx0⟩, w σ H1 _ g1.rs (s.go g1) fun vs H2 bs S2 g2 r2 ⟨b, ds, as, e1, nb, e2, hz, p⟩ => ?_⟩
    subst e1
    obtain ⟨xs, q1, q2⟩ := g2.rs l _ e2
    cases r2 with
    | cons rb r3 =>
      cases r3
      obtain ⟨p2, zs, rfl, h3, h4⟩ := nb.list g2.rs rb
      refine ⟨l, p2, xs, zs, rfl, rfl, q1, h3, ?_, ?_⟩
      · rw [q2.len, dpAll_len h4]
        exact Nat.le_trans hz (by decide)
      · exact k _ _ (.dat .none) _ ((g1.trans g2).trans (put_lst g2.rs (q2.app (RAs.of_dp h4)) (by rw [e2]; rfl))) Dq.non p
theorem we_clear (h : WE K te δ S fun a S1 => ∃ l as, a = .own l ∧ S1 l = some (.lst as) ∧ P (.dat .none) (S1.set l (.lst []))) : WE K (tBM0 K "list" rClear te) δ S P := fun σ H Q rs s k =>
  h σ H _ rs s fun x H1 a S1 g1 r1 ⟨l, as, e, hl, p⟩ => by
    subst e
    cases r1
    obtain ⟨xs, q1, q2⟩ := g1.rs l _ hl
    exact ⟨.inl ⟨rfl, xs, SqL.of q1⟩, l, xs, rfl, rfl, q1, k _ _ (.dat .none) _ (g1.trans (put_lst g1.rs .nil (by rw [hl]; rfl))) Dq.non p⟩
/-- a list that was changed is data from here on -/
theorem WE.free {l : Addr} {ds : List PyData} (h : WE K te δ S fun a S1 => a = .own l ∧ S1 l = some (.lst (dats ds)) ∧ P (.dat (.list ds)) (S1.del l)) : WE K te δ S P := fun σ H Q rs s k =>
  h σ H _ rs s fun x H1 a S1 g1 r1 ⟨e, hl, p⟩ => by
    subst e
    cases r1
    exact k _ _ (.dat (.list ds)) _ (g1.trans (Go.free l g1.rs)) (ra_free_list g1.rs hl) p
/-- list(xs) -/
def rListOf (K : PySem.W.Frag) : List V → Hp → VK → Prop := fun xs H Q => ∃ p ys, xs = [.ref p] ∧ (SqL K H p ys ∨ SqT K H p ys) ∧ ∀ l, H l = none → Q (.ref l) (upd H l (.lst ys))
def signs (z : Str) : List Str := z.cps.toList.map fun c => ⟨#[c]⟩
def rListS : List V → Hp → VK → Prop := fun xs H Q => ∃ z, xs = [.str z] ∧ z.length ≤ sizeLine ∧ ∀ l, H l = none → Q (.ref l) (upd H l (.lst ((signs z).map V.str)))
theorem signs_vals {z : Str} {acc : Array Value} (h : ItemsOf (SignAt z) acc z.cps.size) : Vals ((signs z).map V.str) acc.toList := by
  have key : ∀ (l : List Nat) (u : List Value), l.length = u.length → (∀ (i : Nat) (w : Value), u[i]? = some w → ∃ c t, l[i]? = some c ∧ w = Value.str ⟨#[c]⟩ t) → Vals ((l.map fun c => (⟨#[c]⟩ : Str)).map V.str) u := by
    intro l
    induction l with
    | nil =>
      intro u hl _
      match u with
      | [] => exact .nil
      | _ :: _ => simp at hl
    | cons c l ih =>
      intro u hl hi
      match u with
      | [] => simp at hl
      | w :: u =>
        obtain ⟨c', t, e1, e2⟩ := hi 0 w rfl
        simp at e1
        subst e1 e2
        exact .cons ⟨t, rfl⟩ (ih u (by simpa using hl) fun i w hw => by
          obtain ⟨c2, t2, e3, e4⟩ := hi (i + 1) w (by simpa using hw)
          exact ⟨c2, t2, by simpa using e3, e4⟩)
  refine key z.cps.toList acc.toList (by simp [h.1]) fun i w hw => ?_
  have hw' : acc[i]? = some w := by simpa using hw
  obtain ⟨c, t, e1, e2⟩ := h.2 i w hw'
  exact ⟨c, t, by simpa using e1, e2⟩
theorem call_listS {X : Cx} (hc : X.A.handled = none) : CallR X (.type "list") rListS := by
  intro pins s σ H xs us Q I r h
  obtain ⟨z, rfl, hz, q⟩ := h
  cases r with
  | cons r1 r2 =>
    cases r2
    obtain ⟨t, rfl⟩ := r1
    refine call_list_str hc z t (fun h' tk acc c kp e it => ?_) (by show z.cps.size ≤ sizeLine; exact hz)
    refine ⟨.ref s.heap.objs.size, _, I.laid (t' := tk) kp (Nat.le_refl _) (show ObjOk X.prog X.w _ h' _ (.lst ((signs z).map V.str)) from ⟨?_, acc.toList, c, signs_vals it, by simpa using e⟩), rfl, q _ (I.hok.fresh (Nat.le_refl _))⟩
    unfold signs
    rw [List.length_map, List.length_map]
    simpa [Str.length] using hz
def rListA (K : PySem.W.Frag) : List V → Hp → VK → Prop := fun xs H Q => rListOf K xs H Q ∨ rListS xs H Q
theorem call_listA {X : Cx} (hc : X.A.handled = none) : CallR X (.type "list") (rListA X.K) := CallR.or call_list_of (call_listS hc)
theorem wc_listO {ds : List PyData} (h : Nw S a (.list ds) ∨ Nw S a (.tuple ds)) (p : ∀ q, S q = none → P (.own q) (S.set q (.lst (dats ds)))) : WC K (rListA K) [a] S P := fun xs H Q rs ra k => by
  cases ra with
  | cons r1 r2 =>
    cases r2
    rcases h with h | h
    · obtain ⟨p1, xs, rfl, e1, e2⟩ := h.list rs r1
      exact .inl ⟨p1, xs, rfl, .inl (SqL.of e1), fun q hq => fin_newO rs k e2 hq (p q)⟩
    · obtain ⟨p1, xs, rfl, e1, e2⟩ := h.tup rs r1
      exact .inl ⟨p1, xs, rfl, .inr (ex_t msk_ex e1), fun q hq => fin_newO rs k e2 hq (p q)⟩
theorem dq_strs : ∀ (l : List Str), DqAll K H (l.map V.str) (l.map PyData.str)
  | [] => .nil
  | x :: l => .cons (Dq.str x) (dq_strs l)
theorem wc_listSO {z : Str} (hz : z.length ≤ 1000000) (p : ∀ q, S q = none → P (.own q) (S.set q (.lst (dats ((signs z).map PyData.str))))) : WC K (rListA K) [.dat (.str z)] S P := fun xs H Q rs ra k => by
  cases ra with
  | cons r1 r2 =>
    cases r2
    cases r1
    exact .inr ⟨z, rfl, Nat.le_trans hz (by decide), fun q hq => fin_newO rs k (dq_strs _) hq (p q)⟩
theorem wc_list {ds : List PyData} (h : Nw S a (.list ds) ∨ Nw S a (.tuple ds)) (p : P (.dat (.list ds)) S) : WC K (rListA K) [a] S P := fun xs H Q rs ra k => by
  cases ra with
  | cons r1 r2 =>
    cases r2
    rcases h with h | h
    · obtain ⟨p1, xs, rfl, e1, e2⟩ := h.list rs r1
      exact .inl ⟨p1, xs, rfl, .inl (SqL.of e1), fun q hq => fin_newL rs k e2 p hq⟩
    · obtain ⟨p1, xs, rfl, e1, e2⟩ := h.tup rs r1
      exact .inl ⟨p1, xs, rfl, .inr (ex_t msk_ex e1), fun q hq => fin_newL rs k e2 p hq⟩
/-- tuple(xs) -/
theorem wc_tuple {ds : List PyData} (h : Nw S a (.list ds) ∨ a = .dat (.tuple ds)) (p : P (.dat (.tuple ds)) S) :
    WC K (fun xs H Q => ∃ p ys, xs = [.ref p] ∧ ((SqL K H p ys ∧ ∀ l, H l = none → Q (.ref l) (upd H l (.tup ys))) ∨ (SqT K H p ys ∧ Q (.ref p) H))) [a] S P := fun xs H Q rs ra k => by
  cases ra with
  | cons r1 r2 =>
    cases r2
    rcases h with h | h
    · obtain ⟨p1, xs, rfl, e1, e2⟩ := h.list rs r1
      exact ⟨p1, xs, rfl, .inl ⟨SqL.of e1, fun q hq => fin_newT rs k e2 p hq⟩⟩
    · subst h
      cases r1 with
      | tup e1 e2 => exact ⟨_, _, rfl, .inr ⟨ex_t msk_ex e1, fin_d rs k (Dq.tup e1 e2) p⟩⟩
/-! ## dicts that are changed -/
def valA (kvs : List (Key × AV)) (k : Key) : Option AV := (kvs.find? fun kv => decide (kv.1 = k)).map (·.2)
def putA (kvs : List (Key × AV)) (k : Key) (v : AV) : List (Key × AV) :=
  if (kvs.any fun kv => decide (kv.1 = k)) = true then kvs.map (fun kv => if kv.1 = k then (kv.1, v) else kv) else kvs ++ [(k, v)]
theorem RKs.val {k : Key} : ∀ {kvs : List (Key × V)} {as : List (Key × AV)} {c : AV}, RKs K S H kvs as → valA as k = some c → ∃ v, valV kvs k = some v ∧ RA K S H v c
  | _, _, _, .nil, e => by simp [valA] at e
  | _, _, c, .cons (k := k') (a := a0) (as := as0) r t, e => by
    by_cases h : k' = k
    · subst h
      have e' : c = a0 := by simpa [valA, List.find?_cons] using e.symm
      subst e'
      exact ⟨_, valV_pos rfl, r⟩
    · have e' : valA as0 k = some c := by simpa [valA, List.find?_cons, h] using e
      obtain ⟨v, q1, q2⟩ := RKs.val t e'
      exact ⟨v, (valV_neg h).trans q1, q2⟩
theorem RKs.any {k : Key} : ∀ {kvs : List (Key × V)} {as : List (Key × AV)}, RKs K S H kvs as → (kvs.any fun kv => decide (kv.1 = k)) = as.any fun kv => decide (kv.1 = k)
  | _, _, .nil => rfl
  | _, _, .cons r t => by rw [List.any_cons, List.any_cons, RKs.any t]
theorem RKs.len : ∀ {kvs : List (Key × V)} {as : List (Key × AV)}, RKs K S H kvs as → kvs.length = as.length
  | _, _, .nil => rfl
  | _, _, .cons r t => congrArg Nat.succ (RKs.len t)
theorem RKs.app : ∀ {vs ws : List (Key × V)} {as bs : List (Key × AV)}, RKs K S H vs as → RKs K S H ws bs → RKs K S H (vs ++ ws) (as ++ bs)
  | _, _, _, _, .nil, s => s
  | _, _, _, _, .cons r t, s => .cons r (RKs.app t s)
theorem RKs.put {k : Key} {w : V} {c : AV} {kvs : List (Key × V)} {as : List (Key × AV)} (r : RKs K S H kvs as) (rc : RA K S H w c) : RKs K S H (putK kvs k w) (putA as k c) := by
  unfold putK putA
  rw [r.any]
  split
  · have go : ∀ {kvs : List (Key × V)} {as : List (Key × AV)}, RKs K S H kvs as → RKs K S H (kvs.map (fun kv => if kv.1 = k then (kv.1, w) else kv)) (as.map (fun kv => if kv.1 = k then (kv.1, c) else kv)) := by
      intro kvs as r
      induction r with
      | nil => exact .nil
      | @cons k' v a vs as r t ih =>
        rw [List.map_cons, List.map_cons]
        by_cases h : k' = k
        · rw [if_pos h, if_pos h]
          exact .cons rc ih
        · rw [if_neg h, if_neg h]
          exact .cons r ih
    exact go r
  · exact r.app (.cons rc .nil)
def keyA : Key → AV
  | .inl i => .dat (.int i)
  | .inr x => .dat (.str x)
theorem ra_key {k : Key} (r : RA K S H v (keyA k)) : v = kV k := by
  cases k with
  | inl i => cases r; rfl
  | inr x => cases r; rfl
theorem we_dget (h : WE K td δ S fun a S1 => WE K ty δ S1 fun b S2 => ∃ q kvs k c, a = .own q ∧ b = keyA k ∧ S2 q = some (.dct kvs) ∧ valA kvs k = some c ∧ P c S2) : WE K (tDGet td ty) δ S P := fun σ H Q rs s kk =>
  h σ H _ rs s fun x H1 a S1 g1 r1 w => w σ H1 _ g1.rs (s.go g1) fun y H2 b S2 g2 r2 ⟨q, as, k, c, e1, e2, e3, e4, p⟩ => by
    subst e1 e2
    cases r1
    obtain ⟨kvs, q1, q2⟩ := g2.rs q _ e3
    obtain ⟨v, v1, v2⟩ := q2.val e4
    have := ra_key r2
    subst this
    refine ⟨q, v, rfl, ?_, kk v H2 c S2 (g1.trans g2) v2 p⟩
    rw [← v1]
    exact DGet.k q1
theorem go_dct {p : Addr} {kvs : List (Key × V)} {as : List (Key × AV)} (rs : RS K S H) (r : RKs K S H kvs as) (h : (S p).isSome = true) : Go K S H (S.set p (.dct as)) (upd H p (.dK kvs)) :=
  Go.put rs h fun S' H' e q => ⟨kvs, q, r.up e⟩
theorem ws_dput (h : WE K tv δ S fun c S1 => WE K td δ S1 fun a S2 => WE K ty δ S2 fun b S3 => ∃ q kvs k, a = .own q ∧ b = keyA k ∧ S3 q = some (.dct kvs) ∧ kvs.length ≤ 1000000 ∧ R.nx δ (S3.set q (.dct (putA kvs k c)))) : WS K (sDPut td ty tv) δ S R := fun σ H D rs s f =>
  h σ H _ rs s fun z H1 c S1 g1 r1 w => w σ H1 _ g1.rs (s.go g1) fun x H2 a S2 g2 r2 w2 => w2 σ H2 _ g2.rs ((s.go g1).go g2) fun y H3 b S3 g3 r3 ⟨q, as, k, e1, e2, e3, hz, p⟩ => by
    subst e1 e2
    cases r2
    obtain ⟨kvs, q1, q2⟩ := g3.rs q _ e3
    have := ra_key r3
    subst this
    refine ⟨q, _, rfl, DPut.k q1 (by rw [q2.len]; exact Nat.lt_of_le_of_lt hz (by decide)), ?_⟩
    have g4 := go_dct (p := q) g3.rs (q2.put (k := k) ((r1.go g2).go g3)) (by rw [e3]; rfl)
    have g := ((g1.trans g2).trans g3).trans g4
    exact f.nx σ _ δ _ g (s.go g) p
/-! a dict display -/
inductive RPs (K : PySem.W.Frag) (S : Sto) (H : Hp) : List (V × V) → List (Key × AV) → Prop
  | nil : RPs K S H [] []
  | cons {k : Key} {v : V} {a : AV} {vs : List (V × V)} {as : List (Key × AV)} : RA K S H v a → RPs K S H vs as → RPs K S H ((kV k, v) :: vs) ((k, a) :: as)
def WP (K : PySem.W.Frag) (trs : List (TE × TE)) (δ : Dl) (S : Sto) (P : List (Key × AV) → Sto → Prop) : Prop := ∀ (σ : L2.St) (H : Hp) (Q : List (V × V) → Hp → Prop), RS K S H → Sl K S H σ δ → (∀ ps H' as S', Go K S H S' H' → RPs K S' H' ps as → P as S' → Q ps H') → tPairs trs σ H Q
theorem wp_nil {P : List (Key × AV) → Sto → Prop} (p : P [] S) : WP K [] δ S P := fun σ H Q rs s k => k [] H [] S (Go.refl rs) .nil p
theorem wp_cons {P : List (Key × AV) → Sto → Prop} {trs : List (TE × TE)} (k : Key) (h : WE K ta δ S fun a S1 => a = keyA k ∧ WE K tb δ S1 fun b S2 => WP K trs δ S2 fun as S3 => P ((k, b) :: as) S3) : WP K ((ta, tb) :: trs) δ S P := fun σ H Q rs s kk =>
  h σ H _ rs s fun x H1 a S1 g1 r1 ⟨e, w⟩ => w σ H1 _ g1.rs (s.go g1) fun y H2 b S2 g2 r2 w2 => w2 σ H2 _ g2.rs ((s.go g1).go g2) fun ps H3 as S3 g3 r3 p => by
    subst e
    have := ra_key r1
    subst this
    exact kk _ H3 _ S3 ((g1.trans g2).trans g3) (.cons (r2.go g3) r3) p
theorem RPs.to : ∀ {ps : List (V × V)} {as : List (Key × AV)}, RPs K S H ps as → ∃ kvs, ps = kvs.map (fun kv => (kV kv.1, kv.2)) ∧ RKs K S H kvs as
  | _, _, .nil => ⟨[], rfl, .nil⟩
  | _, _, .cons r t => by
    obtain ⟨kvs, e, q⟩ := RPs.to t
    subst e
    exact ⟨(_, _) :: kvs, rfl, .cons r q⟩
theorem mergeK_nodup {kvs : List (Key × V)} (h : (kvs.map (·.1)).Nodup) : mergeK [] kvs = kvs := by
  have go : ∀ (l acc : List (Key × V)), ((acc ++ l).map (·.1)).Nodup → mergeK acc l = acc ++ l := by
    intro l
    induction l with
    | nil => intro acc _; simp [mergeK]
    | cons p l ih =>
      intro acc hn
      have e : putK acc p.1 p.2 = acc ++ [p] := by
        unfold putK
        rw [if_neg]
        intro hany
        obtain ⟨q, hq, e⟩ := List.any_eq_true.mp hany
        have e' := of_decide_eq_true e
        rw [List.map_append] at hn
        exact (List.nodup_append.mp hn).2.2 q.1 (List.mem_map_of_mem hq) p.1 (by simp) e'
      show mergeK (putK acc p.1 p.2) l = acc ++ p :: l
      rw [e, ih (acc ++ [p]) (by simpa using hn)]
      simp
  simpa using go kvs [] (by simpa using h)
theorem RKs.keys : ∀ {kvs : List (Key × V)} {as : List (Key × AV)}, RKs K S H kvs as → kvs.map (·.1) = as.map (·.1)
  | _, _, .nil => rfl
  | _, _, .cons r t => by rw [List.map_cons, List.map_cons, RKs.keys t]
theorem we_disp {trs : List (TE × TE)} (h : ∀ q, S q = none → WP K trs δ (S.set q (.dct [])) fun as S1 => S1 q = some (.dct []) ∧ as.length ≤ 15 ∧ (as.map (·.1)).Nodup ∧ P (.own q) (S1.set q (.dct as))) : WE K (tDisp trs) δ S P := fun σ H Q rs s k p hp => by
  have g0 : Go K S H (S.set p (.dct [])) (upd H p (.dK [])) := Go.own rs hp fun S' H' e q => ⟨[], q, .nil⟩
  refine h p (rs.none_of hp) σ _ _ g0.rs (s.go g0) fun ps H1 as S1 g1 r1 ⟨e, hl, nd, q⟩ => ?_
  obtain ⟨kvs, e2, r2⟩ := r1.to
  obtain ⟨kv0, z1, z2⟩ := g1.rs p _ e
  cases z2
  refine ⟨z1, kvs, e2, by rw [r2.len]; exact hl, ?_⟩
  rw [mergeK_nodup (by rw [r2.keys]; exact nd)]
  exact k _ _ (.own p) _ ((g0.trans g1).trans (go_dct g1.rs r2 (by rw [e]; rfl))) rfl q
/-! ## truth -/
def truD : PyData → Bool
  | .none => false
  | .bool b => b
  | .int i => i != 0
  | .str y => (y.length : Int) != 0
  | .list xs => !xs.isEmpty
  | .tuple xs => !xs.isEmpty
  | .dict xs => !xs.isEmpty
def shortD : PyData → Prop
  | .str y => y.length ≤ 1000000
  | _ => True
theorem tru_of (n : Nw S a d) (hs : shortD d) (rs : RS K S H) (r : RA K S H v a) : TruV K v H (truD d) := by
  have h := n.dq rs r
  cases h with
  | non => exact rfl
  | bl b => exact rfl
  | int i => exact rfl
  | str x => exact ⟨Nat.le_trans hs (by decide), rfl⟩
  | lst h1 h2 => exact .inl ⟨_, SqL.of h1, by cases h2 <;> rfl⟩
  | tup h1 h2 => exact .inr (.inl ⟨_, h1, by cases h2 <;> rfl⟩)
  | dct h1 h2 => exact .inr (.inr ⟨_, h1, by cases h2 <;> rfl⟩)
theorem wt_tru {P : Bool → Sto → Prop} (h : WE K te δ S fun a S1 => ∃ d, Nw S1 a d ∧ shortD d ∧ P (truD d) S1) : WT K (fun σ H Q => te σ H fun x H' => ∃ k, TruV K x H' k ∧ Q k H') δ S P := fun σ H Q rs s k =>
  h σ H _ rs s fun x H1 a S1 g1 r1 ⟨d, n, hs, p⟩ => ⟨truD d, tru_of n hs g1.rs r1, k _ H1 S1 g1 p⟩
theorem we_notT (h : WE K te δ S fun a S1 => ∃ d, Nw S1 a d ∧ shortD d ∧ P (.dat (.bool (!truD d))) S1) : WE K (tNotT K te) δ S P := fun σ H Q rs s k =>
  h σ H _ rs s fun x H1 a S1 g1 r1 ⟨d, n, hs, p⟩ => ⟨truD d, tru_of n hs g1.rs r1, k _ H1 (.dat (.bool (!truD d))) S1 g1 (Dq.bl _) p⟩
theorem we_andT (h : WE K ta δ S fun a S1 => ∃ d, Nw S1 a d ∧ shortD d ∧ if truD d = true then WE K tb δ S1 P else P a S1) : WE K (tAndT K ta tb) δ S P := fun σ H Q rs s k =>
  h σ H _ rs s fun x H1 a S1 g1 r1 ⟨d, n, hs, w⟩ => by
    refine ⟨truD d, tru_of n hs g1.rs r1, ?_⟩
    revert w
    cases truD d with
    | true => intro w; exact iteT (w σ H1 Q g1.rs (s.go g1) fun v H' c S' g => k v H' c S' (g1.trans g))
    | false => intro w; exact iteF (k x H1 a S1 g1 r1 w)
theorem we_orT (h : WE K ta δ S fun a S1 => ∃ d, Nw S1 a d ∧ shortD d ∧ if truD d = true then P a S1 else WE K tb δ S1 P) : WE K (tOrT K ta tb) δ S P := fun σ H Q rs s k =>
  h σ H _ rs s fun x H1 a S1 g1 r1 ⟨d, n, hs, w⟩ => by
    refine ⟨truD d, tru_of n hs g1.rs r1, ?_⟩
    revert w
    cases truD d with
    | true => intro w; exact iteT (k x H1 a S1 g1 r1 w)
    | false => intro w; exact iteF (w σ H1 Q g1.rs (s.go g1) fun v H' c S' g => k v H' c S' (g1.trans g))
/-- is None -/
theorem w2_isN (na : Nw S a d) (p : P (.dat (.bool (isNone d))) S) : W2 K (fun x y H Q => y = .non ∧ Q (.bl (decide (x = .non))) H) a (.dat .none) S P := fun x y H Q rs ra rb k => by
  cases rb
  have h := na.dq rs ra
  refine ⟨rfl, ?_⟩
  have e : decide (x = .non) = isNone d := by cases h <;> first | rfl | (simp [isNone])
  rw [e]
  exact fin_d rs k (Dq.bl _) p
theorem w2_notN (na : Nw S a d) (p : P (.dat (.bool (!isNone d))) S) : W2 K (fun x y H Q => y = .non ∧ Q (.bl (!decide (x = .non))) H) a (.dat .none) S P := fun x y H Q rs ra rb k => by
  cases rb
  have h := na.dq rs ra
  refine ⟨rfl, ?_⟩
  have e : decide (x = .non) = isNone d := by cases h <;> first | rfl | (simp [isNone])
  rw [e]
  exact fin_d rs k (Dq.bl _) p
end
end Ov
namespace Ov
open PySem PySem.Spec PyProof.Rows L2
section
variable {K : PySem.W.Frag} {S : Sto} {H : Hp} {v x y : V} {a b : AV} {d e : PyData} {P : Po} {te ta tb td ty tv : TE} {tas : TA} {δ : Dl} {R : Rr} {tt : TT} {t : TS}
/-! ## what is walked -/
/-- the walk J gives the n data f 0, f 1, .. as long as what stood when it began stands -/
def DWalk (K : PySem.W.Frag) (S : Sto) (H : Hp) (J : It) (n : Nat) (f : Nat → PyData) : Prop := ∃ (G : Hp → Prop) (Y : Nat → Hp → V → Hp → Prop), Walk J n G Y ∧ (∀ S' H', Go K S H S' H' → G H') ∧
  ∀ i S' H' x H'', i < n → Go K S H S' H' → Y i H' x H'' → Go K S' H' S' H'' ∧ Dq K (msk S' H'') x (f i)
def WI (K : PySem.W.Frag) (wi : TI) (δ : Dl) (S : Sto) (P : Nat → (Nat → PyData) → Sto → Prop) : Prop := ∀ (σ : L2.St) (H : Hp) (R : It → Hp → Prop), RS K S H → Sl K S H σ δ → (∀ J H1 S1 n f, Go K S H S1 H1 → DWalk K S1 H1 J n f → P n f S1 → R J H1) → wi σ H R
theorem get_dat {xs : List V} {ds : List PyData} {i : Nat} {x : V} (h : DqAll K H xs ds) (e : xs[i]? = some x) : Dq K H x (ds.getD i .none) := by
  obtain ⟨d, e1, e2⟩ := dat_at h e
  rw [List.getD_eq_getElem?_getD, e1]
  exact e2
theorem wi_list {P : Nat → (Nat → PyData) → Sto → Prop} (h : WE K te δ S fun a S1 => ∃ ds, a = .dat (.list ds) ∧ P ds.length (fun i => ds.getD i .none) S1) : WI K (iList K te) δ S P := fun σ H R rs s k =>
  h σ H _ rs s fun v H1 a S1 g1 r1 ⟨ds, e, p⟩ => by
    subst e
    cases r1 with
    | @lst a xs _ h1 h2 =>
      have hl := dpAll_len h2
      refine ⟨a, rfl, ⟨xs, SqL.of (msk_ex _ _ h1)⟩, k _ H1 S1 ds.length _ g1 ⟨fun H => SqL K H a xs, YAt xs, hl ▸ walk_list, fun S' H' g => SqL.of (msk_ex _ _ (g.ex _ _ h1)), fun i S' H' x H'' hi g y => ?_⟩ p⟩
      obtain ⟨e, q⟩ := y
      subst e
      exact ⟨Go.refl g.rs, dp_up g.ex (get_dat h2 q)⟩
theorem wi_tup {P : Nat → (Nat → PyData) → Sto → Prop} (h : WE K te δ S fun a S1 => ∃ ds, a = .dat (.tuple ds) ∧ P ds.length (fun i => ds.getD i .none) S1) : WI K (iTup K te) δ S P := fun σ H R rs s k =>
  h σ H _ rs s fun v H1 a S1 g1 r1 ⟨ds, e, p⟩ => by
    subst e
    cases r1 with
    | @tup a xs _ h1 h2 =>
      have hl := dpAll_len h2
      refine ⟨a, rfl, ⟨xs, ex_t msk_ex h1⟩, k _ H1 S1 ds.length _ g1 ⟨fun H => SqT K H a xs, YAt xs, hl ▸ walk_tup, fun S' H' g => ex_t (g.ex.trans msk_ex) h1, fun i S' H' x H'' hi g y => ?_⟩ p⟩
      obtain ⟨e, q⟩ := y
      subst e
      exact ⟨Go.refl g.rs, dp_up g.ex (get_dat h2 q)⟩
theorem wi_range {P : Nat → (Nat → PyData) → Sto → Prop} (h : WA K tas δ S fun as S1 => ∃ n : Nat, as = [.dat (.int n)] ∧ n < 2 ^ 60 ∧ P n (fun i => .int i) S1) : WI K (iRng1 tas) δ S P := fun σ H R rs s k =>
  h σ H _ rs s fun vs H1 as S1 g1 r1 ⟨n, e, hn, p⟩ => by
    subst e
    cases r1 with
    | cons ra r2 =>
      cases r2
      cases ra
      refine ⟨n, rfl, by omega, by omega, k _ H1 S1 n _ g1 ⟨fun _ => True, YFn fun i => .int ((0 : Int) + i), by rw [Int.toNat_natCast]; exact walk_range (lo := 0), fun _ _ _ => trivial, fun i S' H' x H'' hi g y => ?_⟩ p⟩
      obtain ⟨e, q⟩ := y
      subst e q
      have z : (0 : Int) + (i : Int) = (i : Int) := by omega
      show Go K S' H'' S' H'' ∧ Dq K (msk S' H'') (.int ((0 : Int) + (i : Int))) (.int i)
      rw [z]
      exact ⟨Go.refl g.rs, Dq.int _⟩
theorem wi_range2 {P : Nat → (Nat → PyData) → Sto → Prop} (h : WA K tas δ S fun as S1 => ∃ lo hi : Int, as = [.dat (.int lo), .dat (.int hi)] ∧ (-(2 ^ 60) < lo ∧ lo < 2 ^ 60 ∧ -(2 ^ 60) < hi ∧ hi < 2 ^ 60) ∧ P (hi - lo).toNat (fun i => .int (lo + i)) S1) : WI K (iRng2 tas) δ S P := fun σ H R rs s k =>
  h σ H _ rs s fun vs H1 as S1 g1 r1 ⟨lo, hi, e, hn, p⟩ => by
    subst e
    cases r1 with
    | cons ra r2 =>
      cases r2 with
      | cons rb r3 =>
        cases r3
        cases ra
        cases rb
        refine ⟨lo, hi, rfl, ⟨by omega, by omega, by omega, by omega⟩, k _ H1 S1 _ _ g1 ⟨fun _ => True, _, walk_range, fun _ _ _ => trivial, fun i S' H' x H'' hi g y => ?_⟩ p⟩
        obtain ⟨e, q⟩ := y
        subst e q
        exact ⟨Go.refl g.rs, Dq.int _⟩
theorem pair_dat {S' : Sto} {H' H'' : Hp} {x : V} {f g : Nat → Option V} {i : Nat} (rs : RS K S' H') (y : YPair f g i H' x H'') {u w : V → Prop} {c d : PyData} (hf : ∀ z, f i = some z → Dq K (msk S' H') z c) (hg : ∀ z, g i = some z → Dq K (msk S' H') z d) :
    Go K S' H' S' H'' ∧ Dq K (msk S' H'') x (.tuple [c, d]) := by
  obtain ⟨T, z1, z2, e1, e2, e3, e4, e5⟩ := y
  subst e1 e3
  have g1 := Go.new (o := .tup [z1, z2]) rs e2
  exact ⟨g1, Dq.tup (SqT.of (msk_new rs e2)) (dpAll_up g1.ex (.cons (hf _ e4) (.cons (hg _ e5) .nil)))⟩
theorem wi_enum {P : Nat → (Nat → PyData) → Sto → Prop} (h : WA K tas δ S fun as S1 => ∃ ds, as = [.dat (.list ds)] ∧ P ds.length (fun i => .tuple [.int i, ds.getD i .none]) S1) : WI K (iEnum K tas) δ S P := fun σ H R rs s k =>
  h σ H _ rs s fun vs H1 as S1 g1 r1 ⟨ds, e, p⟩ => by
    subst e
    cases r1 with
    | cons ra r2 =>
      cases r2
      cases ra with
      | @lst a xs _ h1 h2 =>
        have hl := dpAll_len h2
        refine ⟨a, xs, rfl, SqL.of (msk_ex _ _ h1), k _ H1 S1 ds.length _ g1 ⟨fun H => SqL K H a xs, _, hl ▸ walk_enum, fun S' H' g => SqL.of (msk_ex _ _ (g.ex _ _ h1)), fun i S' H' x H'' hi g y => ?_⟩ p⟩
        refine pair_dat (u := fun _ => True) (w := fun _ => True) g.rs y (fun z e => ?_) fun z e => dp_up g.ex (get_dat h2 e)
        cases e
        exact Dq.int _
theorem wi_str {P : Nat → (Nat → PyData) → Sto → Prop} (h : WE K te δ S fun a S1 => ∃ z, a = .dat (.str z) ∧ P z.cps.size (fun i => .str ⟨#[z.cps.getD i 0]⟩) S1) : WI K (iStr te) δ S P := fun σ H R rs s k =>
  h σ H _ rs s fun v H1 a S1 g1 r1 ⟨z, e, p⟩ => by
    subst e
    cases r1
    refine ⟨z, rfl, k _ H1 S1 z.cps.size _ g1 ⟨fun _ => True, _, walk_str, fun _ _ _ => trivial, fun i S' H' x H'' hi g y => ?_⟩ p⟩
    obtain ⟨e, c, q1, q2⟩ := y
    subst e q2
    have q3 : z.cps.getD i 0 = c := by
      rw [Array.getD_eq_getD_getElem?, q1]
      rfl
    show Go K S' H'' S' H'' ∧ Dq K (msk S' H'') (.str ⟨#[c]⟩) (.str ⟨#[z.cps.getD i 0]⟩)
    rw [q3]
    exact ⟨Go.refl g.rs, Dq.str _⟩
theorem wi_zip {P : Nat → (Nat → PyData) → Sto → Prop} (h : WA K tas δ S fun as S1 => ∃ ds es, as = [.dat (.list ds), .dat (.list es)] ∧ P (min ds.length es.length) (fun i => .tuple [ds.getD i .none, es.getD i .none]) S1) : WI K (iZip K tas) δ S P := fun σ H R rs s k =>
  h σ H _ rs s fun vs H1 as S1 g1 r1 ⟨ds, es, e, p⟩ => by
    subst e
    cases r1 with
    | cons ra r2 =>
      cases r2 with
      | cons rb r3 =>
        cases r3
        cases ra with
        | @lst a xs _ h1 h2 =>
          cases rb with
          | @lst b ys _ h3 h4 =>
            refine ⟨a, b, xs, ys, rfl, SqL.of (msk_ex _ _ h1), SqL.of (msk_ex _ _ h3), k _ H1 S1 _ _ g1 ⟨fun H => SqL K H a xs ∧ SqL K H b ys, _, walk_zip (by rw [dpAll_len h2, dpAll_len h4]), fun S' H' g => ⟨SqL.of (msk_ex _ _ (g.ex _ _ h1)), SqL.of (msk_ex _ _ (g.ex _ _ h3))⟩, fun i S' H' x H'' hi g y => ?_⟩ p⟩
            exact pair_dat (u := fun _ => True) (w := fun _ => True) g.rs y (fun z e => dp_up g.ex (get_dat h2 e)) fun z e => dp_up g.ex (get_dat h4 e)
/-- a for over anything that WI serves -/
theorem ws_for {g : TG} {wi : TI} (h : WI K wi δ S fun n f S1 => ∃ I : Nat → Dl → Sto → Prop, I 0 δ S1 ∧
    (∀ i δ' S', i < n → I i δ' S' → WG K g (.dat (f i)) δ' S' fun δ2 S2 => WS K t δ2 S2 { R with nx := I (i + 1), ct := I (i + 1), bk := R.nx }) ∧ ∀ δ' S', I n δ' S' → R.nx δ' S') : WS K (tFor wi g t) δ S R := fun σ H D rs s f =>
  h σ H _ rs s fun J H1 S1 n fd g1 ⟨G, Y, w, hG, hY⟩ ⟨I, h0, hs, hd⟩ => by
    refine for_it w (fun i σ' H' => ∃ δ' S', Go K S1 H1 S' H' ∧ Sl K S' H' σ' δ' ∧ I i δ' S') ⟨δ, S1, Go.refl g1.rs, s.go g1, h0⟩ (fun i σ' H' _ ⟨δ', S', g', _, _⟩ => hG S' H' g') ?_ ?_
    · rintro i x σ' H' H'' hi ⟨δ', S', g', s', p⟩ y
      obtain ⟨g2, q⟩ := hY i S' H' x H'' hi g' y
      refine hs i δ' S' hi p x σ' H'' _ g2.rs (s'.go g2) q fun σ2 H2 δ2 S2 g3 s2 w2 => w2 σ2 H2 _ g3.rs s2 ?_
      have f2 := (f.go g1).go ((g'.trans g2).trans g3)
      exact ⟨fun σ3 H3 δ3 S3 g4 s3 q => ⟨δ3, S3, ((g'.trans g2).trans g3).trans g4, s3, q⟩, f2.rt, f2.nx, fun σ3 H3 δ3 S3 g4 s3 q => ⟨δ3, S3, ((g'.trans g2).trans g3).trans g4, s3, q⟩⟩
    · rintro σ' H' ⟨δ', S', g', s', p⟩
      exact f.nx σ' H' δ' S' (g1.trans g') s' (hd δ' S' p)
/-! ## comprehensions -/
def wipeD (δ : Dl) : List Nat → Dl
  | [] => δ
  | v :: vs => (wipeD δ vs).set v none
theorem Sl.set_none {σ : L2.St} (h : Sl K S H σ δ) (i : Nat) : Sl K S H (σ.set i none) (δ.set i none) := by
  refine ⟨by rw [List.length_set, List.length_set]; exact h.1, fun j b e => ?_⟩
  by_cases hj : j = i
  · subst hj
    by_cases hl : j < δ.length
    · rw [List.getElem?_set_self hl] at e
      cases e
    · rw [List.getElem?_eq_none (by rw [List.length_set]; omega)] at e
      cases e
  · rw [List.getElem?_set_ne (Ne.symm hj)] at e ⊢
    exact h.2 j b e
theorem Sl.wipe {σ : L2.St} (h : Sl K S H σ δ) : ∀ vs, Sl K S H (wipe σ vs) (wipeD δ vs)
  | [] => h
  | v :: vs => (Sl.wipe h vs).set_none v
theorem wipe_set_mem (σ : L2.St) (x : Option V) : ∀ (vs : List Nat) (j : Nat), j ∈ vs → wipe (σ.set j x) vs = wipe σ vs
  | v :: vs, j, h => by
    show (wipe (σ.set j x) vs).set v none = (wipe σ vs).set v none
    by_cases hv : j ∈ vs
    · rw [wipe_set_mem σ x vs j hv]
    · have e : j = v := by
        rcases List.mem_cons.mp h with e | e
        · exact e
        · exact absurd e hv
      subst e
      have go : ∀ (vs : List Nat) (τ : L2.St), (wipe (τ.set j x) vs).set j none = (wipe τ vs).set j none := by
        intro vs
        induction vs with
        | nil => intro τ; exact List.set_set ..
        | cons w vs ih =>
          intro τ
          show ((wipe (τ.set j x) vs).set w none).set j none = ((wipe τ vs).set w none).set j none
          by_cases hw : w = j
          · subst hw
            rw [List.set_set, List.set_set]
            exact ih τ
          · rw [List.set_comm _ _ hw, List.set_comm (l := wipe τ vs) _ _ hw, ih τ]
      exact go vs σ
theorem wipe_wipe (σ : L2.St) : ∀ vs ws : List Nat, (∀ v ∈ vs, v ∈ ws) → wipe (wipe σ vs) ws = wipe σ ws
  | [], ws, _ => rfl
  | v :: vs, ws, h => by
    show wipe ((wipe σ vs).set v none) ws = wipe σ ws
    rw [wipe_set_mem _ _ ws v (h v (by simp)), wipe_wipe σ vs ws fun u hu => h u (List.mem_cons_of_mem _ hu)]
/-- a target that stores among vs alone -/
def Wip (g : TG) (vs : List Nat) : Prop := ∀ (v : V) (σ : L2.St) (H : Hp) (Q : L2.St → Hp → Prop), g v σ H Q → g v σ H fun σ' H' => wipe σ' vs = wipe σ vs ∧ Q σ' H'
def Wips (g : TGs) (vs : List Nat) : Prop := ∀ (v : List V) (σ : L2.St) (H : Hp) (Q : L2.St → Hp → Prop), g v σ H Q → g v σ H fun σ' H' => wipe σ' vs = wipe σ vs ∧ Q σ' H'
theorem wip_name {i : Nat} {vs : List Nat} (h : i ∈ vs) : Wip (gName i) vs := fun v σ H Q q => ⟨wipe_set_mem σ _ vs i h, q⟩
theorem wips_nil {vs : List Nat} : Wips gNil vs := fun v σ H Q q => ⟨q.1, rfl, q.2⟩
theorem wips_cons {g : TG} {gs : TGs} {vs : List Nat} (hg : Wip g vs) (hs : Wips gs vs) (mono : ∀ (v : V) (σ : L2.St) (H : Hp) (Q Q' : L2.St → Hp → Prop), (∀ σ' H', Q σ' H' → Q' σ' H') → g v σ H Q → g v σ H Q')
    (monos : ∀ (v : List V) (σ : L2.St) (H : Hp) (Q Q' : L2.St → Hp → Prop), (∀ σ' H', Q σ' H' → Q' σ' H') → gs v σ H Q → gs v σ H Q') : Wips (gCons g gs) vs := fun v σ H Q q => by
  obtain ⟨x, r, e, q⟩ := q
  exact ⟨x, r, e, mono _ _ _ _ _ (fun σ' H' ⟨e1, q1⟩ => monos _ _ _ _ _ (fun σ2 H2 ⟨e2, q2⟩ => ⟨e2.trans e1, q2⟩) (hs _ _ _ _ q1)) (hg _ _ _ _ q)⟩
theorem mono_name {i : Nat} : ∀ (v : V) (σ : L2.St) (H : Hp) (Q Q' : L2.St → Hp → Prop), (∀ σ' H', Q σ' H' → Q' σ' H') → gName i v σ H Q → gName i v σ H Q' := fun v σ H Q Q' i q => i _ _ q
theorem mono_nil : ∀ (v : List V) (σ : L2.St) (H : Hp) (Q Q' : L2.St → Hp → Prop), (∀ σ' H', Q σ' H' → Q' σ' H') → gNil v σ H Q → gNil v σ H Q' := fun v σ H Q Q' i q => ⟨q.1, i _ _ q.2⟩
theorem mono_cons {g : TG} {gs : TGs} (mono : ∀ (v : V) (σ : L2.St) (H : Hp) (Q Q' : L2.St → Hp → Prop), (∀ σ' H', Q σ' H' → Q' σ' H') → g v σ H Q → g v σ H Q')
    (monos : ∀ (v : List V) (σ : L2.St) (H : Hp) (Q Q' : L2.St → Hp → Prop), (∀ σ' H', Q σ' H' → Q' σ' H') → gs v σ H Q → gs v σ H Q') : ∀ (v : List V) (σ : L2.St) (H : Hp) (Q Q' : L2.St → Hp → Prop), (∀ σ' H', Q σ' H' → Q' σ' H') → gCons g gs v σ H Q → gCons g gs v σ H Q' :=
  fun v σ H Q Q' i ⟨x, r, e, q⟩ => ⟨x, r, e, mono _ _ _ _ _ (fun σ' H' q1 => monos _ _ _ _ _ i q1) q⟩
theorem wip_tup {n : Nat} {gs : TGs} {vs : List Nat} (h : Wips gs vs) (monos : ∀ (v : List V) (σ : L2.St) (H : Hp) (Q Q' : L2.St → Hp → Prop), (∀ σ' H', Q σ' H' → Q' σ' H') → gs v σ H Q → gs v σ H Q') : Wip (gTup K n gs) vs := fun v σ H Q ⟨a, xs, e, h1, h2, q⟩ =>
  ⟨a, xs, e, h1, h2, h _ _ _ _ q⟩
theorem wip_pair {n i j : Nat} {vs : List Nat} (hi : i ∈ vs) (hj : j ∈ vs) : Wip (gTup K n (gCons (gName i) (gCons (gName j) gNil))) vs :=
  wip_tup (wips_cons (wip_name hi) (wips_cons (wip_name hj) wips_nil mono_name mono_nil) mono_name (mono_cons mono_name mono_nil)) (mono_cons mono_name (mono_cons mono_name mono_nil))
theorem wip_triple {n i j k : Nat} {vs : List Nat} (hi : i ∈ vs) (hj : j ∈ vs) (hk : k ∈ vs) : Wip (gTup K n (gCons (gName i) (gCons (gName j) (gCons (gName k) gNil)))) vs :=
  wip_tup (wips_cons (wip_name hi) (wips_cons (wip_name hj) (wips_cons (wip_name hk) wips_nil mono_name mono_nil) mono_name (mono_cons mono_name mono_nil)) mono_name (mono_cons mono_name (mono_cons mono_name mono_nil))) (mono_cons mono_name (mono_cons mono_name (mono_cons mono_name mono_nil)))
theorem wt_yes {P : Bool → Sto → Prop} (p : P true S) : WT K tYes δ S P := fun σ H Q rs s k => k true H S (Go.refl rs) p
theorem dats_snoc (acc : List PyData) (d : PyData) : dats acc ++ [.dat d] = dats (acc ++ [d]) := by simp [dats]
/-- the list is made while the store speaks of it, at D -/
theorem we_lc {wi : TI} {g : TG} {vs : List Nat} (hw : Wip g vs) (h : WI K wi δ S fun n f S1 => n ≤ 100000 ∧ ∀ D, S1 D = none → ∃ I : Nat → List PyData → Sto → Prop, I 0 [] (S1.set D (.lst [])) ∧
    (∀ i acc S', i < n → acc.length ≤ i → S' D = some (.lst (dats acc)) → I i acc S' → WG K g (.dat (f i)) (wipeD δ vs) S' fun δ2 S2 => WT K tt δ2 S2 fun b S3 =>
      if b = true then WE K te δ2 S3 fun y S4 => ∃ d, y = .dat d ∧ S4 D = some (.lst (dats acc)) ∧ I (i + 1) (acc ++ [d]) (S4.set D (.lst (dats (acc ++ [d])))) else S3 D = some (.lst (dats acc)) ∧ I (i + 1) acc S3) ∧
    ∀ acc S', acc.length ≤ n → S' D = some (.lst (dats acc)) → I n acc S' → P (.dat (.list acc)) (S'.del D)) : WE K (tLc wi g tt te vs) δ S P := fun σ H Q rs s k =>
  h σ H _ rs s fun J H1 S1 n fd g1 ⟨G, Y, w, hG, hY⟩ ⟨hn, hI⟩ D hD => by
    obtain ⟨I, h0, hs, hd⟩ := hI D (g1.rs.none_of hD)
    have g0 : Go K S1 H1 (S1.set D (.lst [])) (upd H1 D (.lst [])) := go_lst g1.rs .nil hD
    refine lc_it w (fun i H' => ∃ acc S', Go K S1 H1 S' H' ∧ acc.length ≤ i ∧ S' D = some (.lst (dats acc)) ∧ I i acc S') ⟨[], _, g0, Nat.le_refl _, set_same, h0⟩ (fun i H' _ ⟨acc, S', g', _⟩ => hG S' H' g') ?_ ?_
    · rintro i x H' H'' hi ⟨acc, S', g', hl, hD', p⟩ y
      obtain ⟨g2, q⟩ := hY i S' H' x H'' hi g' y
      have sw : Sl K S' H'' (wipe σ vs) (wipeD δ vs) := ((((s.go g1).go g').go g2)).wipe vs
      have z := hw x (wipe σ vs) H'' _ (hs i acc S' hi hl hD' p x (wipe σ vs) H'' (fun σ2 H2 => tt σ2 H2 fun b H3 => if b = true then te σ2 H3 fun y H4 => ∃ acc, H4 D = some (.lst acc) ∧ acc.length < sizeLine ∧ (∃ acc' S', Go K S1 H1 S' (upd H4 D (.lst (acc ++ [y]))) ∧ acc'.length ≤ i + 1 ∧ S' D = some (.lst (dats acc')) ∧ I (i + 1) acc' S') else ∃ acc' S', Go K S1 H1 S' H3 ∧ acc'.length ≤ i + 1 ∧ S' D = some (.lst (dats acc')) ∧ I (i + 1) acc' S') g2.rs sw q fun σ2 H2 δ2 S2 g3 s2 w2 => ?_)
      · revert z
        have e : wipe (wipe σ vs) vs = wipe σ vs := wipe_wipe σ vs vs fun _ h => h
        rw [e]
        exact fun z => z
      · refine w2 σ2 H2 _ g3.rs s2 fun b H3 S3 g4 w3 => ?_
        have gg := ((g'.trans g2).trans g3).trans g4
        cases b with
        | false => exact iteF ⟨acc, S3, gg, Nat.le_succ_of_le hl, w3.1, w3.2⟩
        | true =>
          refine iteT (w3 σ2 H3 _ g4.rs (s2.go g4) fun yv H4 ya S4 g5 r5 ⟨dd, e5, hD4, p5⟩ => ?_)
          subst e5
          obtain ⟨xs, q1, q2⟩ := g5.rs D _ hD4
          have hlen : xs.length = acc.length := by rw [q2.len]; simp [dats]
          refine ⟨xs, q1, ?_, acc ++ [dd], _, (gg.trans g5).trans (put_lst (p := D) g5.rs ?_ (by rw [hD4]; rfl)), by simp; omega, set_same, p5⟩
          · have : acc.length < 100000 := by omega
            rw [hlen]
            exact Nat.lt_of_lt_of_le this (by decide)
          · rw [← dats_snoc]
            exact q2.app (.cons r5 .nil)
    · rintro H' ⟨acc, S', g', hl, hD', p⟩
      exact k _ H' (.dat (.list acc)) _ ((g1.trans g').trans (Go.free D g'.rs)) (ra_free_list g'.rs hD') (hd acc S' hl hD' p)
/-! ## defs -/
/-- a promise over data -/
def SpA (K : PySem.W.Frag) (n : Nat) (spec : List AV → Sto → Po → Prop) : Sp := fun vs H Q _ => vs.length = n ∧ ∃ as S P, RS K S H ∧ RAs K S H vs as ∧ spec as S P ∧ ∀ v H' a S', Go K S H S' H' → RA K S' H' v a → P a S' → Q v H'
theorem we_call {n : Nat} {spec : List AV → Sto → Po → Prop} {E : XK} (h : WA K tas δ S fun as S1 => as.length = n ∧ spec as S1 P) : WE K (tCall (SpA K n spec) [] E tas) δ S P := fun σ H Q rs s k =>
  h σ H _ rs s fun vs H1 as S1 g1 r1 ⟨hl, p⟩ => by
    refine ⟨?_, as, S1, P, g1.rs, ?_, p, fun v H' a S' g => k v H' a S' (g1.trans g)⟩
    · rw [List.append_nil, r1.len, hl]
    · rw [List.append_nil]
      exact r1
/-- how a def's slots stand at its start -/
def startA (N : List Str) (as : List AV) : Dl := as.map some ++ List.replicate (N.length - as.length) none
theorem sl_start {N : List Str} {vs : List V} {as : List AV} (r : RAs K S H vs as) (hl : as.length ≤ N.length) : Sl K S H (start N vs) (startA N as) := by
  have e : vs.length = as.length := r.len
  refine ⟨?_, fun i a h => ?_⟩
  · unfold L2.start startA
    simp [e]
  · unfold startA at h
    have hi : i < as.length := by
      apply Classical.byContradiction
      intro z
      rw [List.getElem?_append_right (by rw [List.length_map]; omega)] at h
      rw [List.getElem?_replicate] at h
      split at h <;> cases h
    rw [List.getElem?_append_left (by rw [List.length_map]; exact hi), List.getElem?_map] at h
    have h' : as[i]? = some a := by
      cases q : as[i]? with
      | none => rw [q] at h; cases h
      | some b => rw [q] at h; cases h; rfl
    obtain ⟨v, q1, q2⟩ := r.get h'
    refine ⟨v, ?_, q2⟩
    unfold L2.start
    rw [List.getElem?_append_left (by rw [List.length_map, e]; exact hi), List.getElem?_map, q1]
    rfl
theorem body_ok {n : Nat} {spec : List AV → Sto → Po → Prop} {N : List Str} {vs : List V} {Q : VK} {E : XK} (h : SpA K n spec vs H Q E) (hN : n ≤ N.length) (hb : ∀ as S P, as.length = n → spec as S P → WS K t (startA N as) S { nx := fun _ S' => P (.dat .none) S', rt := P }) :
    t { nx := fun _ H' => Q .non H', rt := Q } (start N vs) H := by
  obtain ⟨hl, as, S, P, rs, ra, sp, k⟩ := h
  have hla : as.length = n := ra.len.symm.trans hl
  exact hb as S P hla sp _ H _ rs (sl_start ra (by omega)) ⟨fun σ' H' δ' S' g s p => k _ H' (.dat .none) S' g Dq.non p, k, fun _ _ _ _ _ _ z => z.elim, fun _ _ _ _ _ _ z => z.elim⟩
end
end Ov
namespace Ov
open PySem PySem.Spec PyProof.Rows L2
/-! ## defs that ask for texts of data: nothing may be shown around them -/
/-- a def's promise, where no text of a list is under way around the call -/
structure FnG (P : Program) (w : World) (K : PySem.W.Frag) (mg : Str → Option Value) (base : Heap) (k : Nat) (f : Addr) (fd : FuncData) (ps : List Str) (sp : Sp) : Prop where
  len : ∀ (vs : List V) (H : Hp) (Q : VK) (E : XK), sp vs H Q E → vs.length = ps.length
  run : ∀ (A : Around) (out : List Env) (s : Shared) (H : Hp) (args : Args) (us : List Value) (vs : List V) (Q : VK) (E : XK), A.guards = some [] → Room k A →
    Env0 P w K mg base A out s H → BindsTo s fd args (ps.zip us) → Vals vs us → sp vs H Q E → codeAny (model P w) A (.call (.ref f) args) (CR CX0 out P w H s Q E) s
theorem FnG.of {P : Program} {w : World} {K : PySem.W.Frag} {mg : Str → Option Value} {base : Heap} {k : Nat} {f : Addr} {fd : FuncData} {ps : List Str} {sp : Sp} (F : FnOk P w K mg base CX0 k f fd ps sp) : FnG P w K mg base k f fd ps sp :=
  ⟨F.len, fun A out s H args us vs Q E _ => F.run A out s H args us vs Q E⟩
structure CalG (P : Program) (w : World) (K : PySem.W.Frag) (mg : Str → Option Value) (base : Heap) (k : Nat) (x : Str) (sp : Sp) : Prop where
  ex : ∃ (f : Addr) (fd : FuncData) (ps : List Str), FnG P w K mg base k f fd ps sp ∧ mg x = some (.ref f) ∧ PySem.W.keepIn K (.ref f) = true ∧ Binds K fd ps []
section
variable {X : Cx} {k j : Nat} {x : Str} {sp : Sp} {p pos : Pos} {e : Expr} {es : List Expr} {t : TA} {f : Addr} {fd : FuncData} {ps : List Str}
theorem run_g {pins : List (Addr × Obj)} {σ : L2.St} {H : Hp} {s : Shared} {Q : VK} {us : List Value} {vs : List V} (F : FnG X.prog X.w X.K X.mg X.base k f fd ps sp) (hG : X.A.guards = some []) (hr : Room k X.A) (hb : Binds X.K fd ps [])
    (I : Inv X pins σ H s) (r : Vals vs us) (h : sp (vs ++ []) H Q E0) : wpAny (model X.prog X.w) X.A (call (.ref f) us) (EP X pins σ Q) X.xe s := by
  rw [List.append_nil] at h
  have hl : (us ++ ([] : List Value)).length = ps.length := by
    rw [List.append_nil, ← r.length]
    exact F.len _ _ _ _ h
  have hbs := hb s us I.kIn hl
  rw [List.append_nil] at hbs
  refine wpAny_call (codeAny_mono (F.run X.A X.stack s H ⟨us, []⟩ us vs Q E0 hG hr I.env0 hbs r h) fun res s' hq => ?_)
  match res, hq with
  | .error _, hq => exact False.elim hq
  | .ok (.ret _), hq => exact I.after hq
  | .ok .next, hq => exact False.elim hq
  | .ok .brk, hq => exact False.elim hq
  | .ok .cont, hq => exact False.elim hq
theorem pe_cg (c : CalG X.prog X.w X.K X.mg X.base k x sp) (hG : X.A.guards = some []) (hr : Room j X.A) (hk : k ≤ j) (hg : Gl X x) (ha : PA X (e :: es) t)
    (hdb : (x == ("__debug__" : Str)) = false := by decide) (he : starEach (e :: es) X.env = (false, eval e X.env) :: starEach es X.env := by rfl) (hpl : (backTo pos (starEach es X.env)).any (·.1) = false := by rfl) :
    PE X (.Call (.Name x p) (e :: es) [] pos) (tCall sp [] E0 t) := by
  obtain ⟨f, fd, ps, F, hm, kp, b⟩ := c.ex
  refine ⟨fun pins s σ H Q I h => wpAny_Call_Name_kw (ld_glob I hg hm ?_ hdb)⟩
  refine PySem.W.callWith_K (h₀ := X.base) I.ok.mod.kin kp (thn (ha.run pos pins s σ H _ I h) fun us s1 ⟨vs, H1, I1, r, q⟩ => ⟨I1.kIn, run_g F hG (hr.mono hk) b I1 r q⟩) he hpl
theorem pe_cg0 (c : CalG X.prog X.w X.K X.mg X.base k x sp) (hG : X.A.guards = some []) (hr : Room j X.A) (hk : k ≤ j) (hg : Gl X x) (hdb : (x == ("__debug__" : Str)) = false := by decide) :
    PE X (.Call (.Name x p) [] [] pos) (tCall sp [] E0 tNil) := by
  obtain ⟨f, fd, ps, F, hm, kp, b⟩ := c.ex
  refine ⟨fun pins s σ H Q I h => wpAny_Call_Name_kw (ld_glob I hg hm ?_ hdb)⟩
  exact PySem.W.callWith_K0 I.kIn kp (run_g (us := []) F hG (hr.mono hk) b I .nil h)
end
section
variable {P : Program} {w : World} {K : PySem.W.Frag} {mg : Str → Option Value} {base : Heap}
theorem fn_g {k : Nat} {f : Addr} {name qual : Str} {params : Arguments} {body : List Stmt} {scope : Scope} {dV kV doc pm cdv ct oc : Value} {an od : Option Addr} {osl : Array (Option Value)} {N ps : List Str} {sp : Sp}
    (lk : K.lookup f = some ⟨oc, od, .func (PySem.W.fnOf name qual params body scope dV kV doc pm an cdv ct), osl⟩) (hcd : PySem.W.codeIn K cdv qual = true) (S : FnScope N ps scope) (len : ∀ vs H Q E, sp vs H Q E → vs.length = ps.length)
    (hbody : ∀ (A : Around) (out : List Env) (s : Shared) (H : Hp) (vs : List V) (Q : VK) (E : XK), A.guards = some [] → Room k (A.deeper (envOfC qual scope s.heap.objs.size f cdv)) → sp vs H Q E →
      ∃ t, PSs (cxOf CX0 P w K mg base N qual scope f cdv A out s H E) body t ∧ t { nx := fun _ H' => Q .non H', rt := Q } (L2.start N vs) H) :
    FnG P w K mg base (k + 1) f (PySem.W.fnOf name qual params body scope dV kV doc pm an cdv ct) ps sp := by
  refine ⟨len, fun A out s H args us vs Q E hG hr e0 hb r hsp => ?_⟩
  have hl := len _ _ _ _ hsp
  have up : ∀ b o, base.get? b = some o → s.heap.get? b = some o := fun b o e => (e0.bs b o e).1
  have hkinds : ∀ y ∈ ps.zip us, scope.names.lookup y.1 = some .local ∨ (scope.names.lookup y.1 = some .cell ∧ ((cellsFrom (s.heap.objs.size + 1) scope.names []).lookup y.1).isSome = true) := fun ⟨n, v⟩ hy =>
    (S.par n (List.of_mem_zip hy).1).imp id fun q => ⟨q, PySem.W.cellsFrom_some _ _ _ (.inl q)⟩
  refine codeAny_call_function hr.depth ((e0.mod.kin.keeps up) _ _ lk) rfl S.co S.gen rfl (PySem.W.codeRec_of (e0.mod.kin.keeps up) hcd) (hb _ _ _ _ ?_)
  refine wpAny_newFunctionEnv_cells S.kind hkinds fun env he s1 x => ?_
  subst he
  refine ⟨(e0.mod.nolimit.keeps up).keeps x.toInCall.keep, codeAny_func ?_⟩
  obtain ⟨t, ht, hq⟩ := hbody A out s H vs Q E hG (hr.deeper _) hsp
  have I := inv_start (CX := CX0) (E := E) S hr.hd e0 hl r x
  refine wpAny_mono (ht.run [] s1 (L2.start N vs) H _ I hq) (fun fl s' hs => ?_) fun _ _ z => z
  match fl, hs with
  | .ret u, hs =>
    obtain ⟨v, σ', H', J, rv, q⟩ := hs
    exact ⟨v, H', J.os, J.bare, J.base, J.hok, rv, q⟩
  | .next, hs =>
    obtain ⟨σ', H', J, q⟩ := hs
    exact ⟨V.non, H', J.os, J.bare, J.base, J.hok, rfl, q⟩
  | .brk, hs =>
    obtain ⟨_, _, _, q⟩ := hs
    exact False.elim q
  | .cont, hs =>
    obtain ⟨_, _, _, q⟩ := hs
    exact False.elim q
theorem Df.calG {x : Str} {st : Stmt} {f : Addr} {fd : FuncData} {N ps : List Str} {k : Nat} {sp : Sp} (F : Df K mg x ps st f fd) (S : FnScope N ps (defScope st)) (len : ∀ vs H Q E, sp vs H Q E → vs.length = ps.length)
    (hbody : ∀ (cdv : Value) (A : Around) (out : List Env) (s : Shared) (H : Hp) (vs : List V) (Q : VK) (E : XK), A.guards = some [] → Room k (A.deeper (envOfC x (defScope st) s.heap.objs.size f cdv)) → sp vs H Q E →
      ∃ t, PSs (cxOf CX0 P w K mg base N x (defScope st) f cdv A out s H E) (defBody st) t ∧ t { nx := fun _ H' => Q .non H', rt := Q } (L2.start N vs) H) : CalG P w K mg base (k + 1) x sp := by
  obtain ⟨⟨⟨oc, od, kV, doc, pm, an, cdv, ct, osl, rfl, lk, hcd⟩, kp⟩, hm, hb⟩ := F
  exact ⟨f, _, ps, fn_g lk hcd S len fun A out s H vs Q E => hbody cdv A out s H vs Q E, hm, kp, hb⟩
theorem Cal.g {k : Nat} {x : Str} {sp : Sp} (c : Cal P w K mg base k x sp) : CalG P w K mg base k x sp :=
  let ⟨f, fd, ps, F, r⟩ := c.ex
  ⟨f, fd, ps, FnG.of F, r⟩
end
/-! ## repr -/
def rReprD (K : PySem.W.Frag) : List V → Hp → VK → Prop := fun xs H Q => ∃ x d, xs = [x] ∧ Dp K H x d ∧ (∃ p, x = .ref p) ∧ d.showable = true ∧ d.hasDict = false ∧ d.depth ≤ 60 ∧ d.shown.length ≤ sizeLine ∧ Q (.str d.shown) H
theorem call_reprD {X : Cx} (hG : X.A.guards = some []) (hu : X.A.units + 64 < cLine) : CallR X (.builtin "repr") (rReprD X.K) := by
  intro pins s σ H xs us Q I r h
  obtain ⟨x, d, rfl, hd, ⟨p, rfl⟩, h1, h2, h3, h4, q⟩ := h
  cases r with
  | cons r1 r2 =>
    cases r2
    obtain ⟨as, rd⟩ := Dp.reads I d _ _ hd r1
    cases r1
    exact repr_of_reads' rd h1 (PyData.noDict_hsm h2) hG (by omega) (fun _ _ z => z) (fun h' u tk kp => ⟨.str d.shown, H, I.kept (t' := tk) kp, ⟨u, rfl⟩, q⟩) h4
theorem wc_repr {K : PySem.W.Frag} {S : Sto} {a : AV} {d : PyData} {P : Po} (n : Nw S a d) (hc : (∃ ds, d = .list ds) ∨ ∃ ds, d = .tuple ds) (h1 : d.showable = true) (h2 : d.hasDict = false) (h3 : d.depth ≤ 60) (h4 : d.shown.length ≤ 10000000) (p : P (.dat (.str d.shown)) S) :
    WC K (rReprD K) [a] S P := fun xs H Q rs ra k => by
  cases ra with
  | cons r1 r2 =>
    cases r2
    have hd := n.dp h2 rs r1
    refine ⟨_, d, rfl, hd, ?_, h1, h2, h3, Nat.le_trans h4 (by decide), fin_d rs k (Dq.str _) p⟩
    rcases hc with ⟨ds, rfl⟩ | ⟨ds, rfl⟩
    · cases hd; exact ⟨_, rfl⟩
    · cases hd; exact ⟨_, rfl⟩
end Ov
namespace Ov
open PySem PySem.Spec PyProof.Rows L2
/-! ## the law's own call -/
/-- a law over a script: True comes out -/
def spLaw (n : Nat) : List AV → Sto → Po → Prop := fun as _ P => ∃ ns : List Int, as = [.scr ns] ∧ ns.length ≤ n ∧ ∀ S', P (.dat (.bool true)) S'
section
variable {P : Program} {w : World} {K : PySem.W.Frag} {mg mb : Str → Option Value} {k n : Nat} {fa a : Addr} {fd : FuncData} {x : Str} {s0 : Shared} {vs : List Value} {ns : List Int}
theorem law_at {base : Heap} {H : Hp} (F : FnG P w K mg base k fa fd [x] (SpA K 1 (spLaw n))) (room : Room k callerA) (e0 : Env0 P w K mg base callerA [] s0 H) (bind : ∀ (s : Shared) (u : Value), BindsTo s fd ⟨[u], []⟩ [(x, u)]) (hl : ns.length ≤ n)
    (hS : SqL K H a (ns.map V.int)) (hO : Only H) : codeAny (model P w) callerA (.call (.ref fa) ⟨[.ref a], []⟩) (fun r s' => r = .ok (.ret (.bool true)) ∧ OldK s0.heap s'.heap ∧ s'.os = s0.os ∧ AllBare s'.gens) s0 := by
  have sp : SpA K 1 (spLaw n) [.ref a] H (fun v _ => v = .bl true) fun _ _ _ => False := by
    refine ⟨rfl, [.scr ns], fun _ => none, fun b _ => b = .dat (.bool true), fun _ _ z => (nomatch z), ?_, ⟨ns, rfl, hl, fun _ => rfl⟩, fun v H' b S' g r e => ?_⟩
    · refine .cons ⟨a, rfl, ?_⟩ .nil
      have e : msk (fun _ => none) H = H := by
        funext b
        rfl
      rw [e]
      exact hS
    · subst e
      cases r
      rfl
  refine codeAny_mono (F.run callerA [] s0 H ⟨[.ref a], []⟩ [.ref a] [.ref a] _ _ rfl room e0 (bind s0 (.ref a)) (.cons rfl .nil) sp) fun res s' z => ?_
  match res, z with
  | .error _, z => exact False.elim z
  | .ok .next, z => exact False.elim z
  | .ok .brk, z => exact False.elim z
  | .ok .cont, z => exact False.elim z
  | .ok (.ret u), z =>
    obtain ⟨v, H', q1, q2, un, hok', rv, e⟩ := z
    have e' : v = .bl true := e
    subst e'
    obtain rfl : u = Value.bool true := rv
    refine ⟨rfl, OldK.of_keep fun b o ho => ?_, q1, q2⟩
    rcases hO b with z | ⟨ob, xs, z⟩
    · exact un.keep b o ho z (fun y => absurd y (by simp [frs])) (by simp)
    · obtain ⟨y1, _⟩ := e0.hok b _ z
      obtain ⟨y2, _⟩ := hok' b _ (un.frzs b ob _ z)
      rw [ho] at y1
      cases y1
      exact y2
theorem hid_ns {H : Hp} {b : Addr} {m : Str → Option Value} {h : Heap} (nd : ∀ c o es ep, h.get? c = some o → o.data = .dict es ep → H c = none) (q : h.Ns b m) : (hidT h H).Ns b m :=
  let ⟨o, es, ep, e, d, r⟩ := q
  ⟨o, es, ep, hidT_get e (nd _ _ _ _ e d), d, r⟩
theorem law_go (KX : K.In s0.heap) (hns : s0.heap.Ns mainGlobals mg) (hb : s0.heap.Ns builtinsNs mb) (hbb : ∀ y : Str, y ≠ "__name__" → mb y = bootBuiltins y) (hlim : s0.heap.NoLimit) (hg : s0.gens = #[])
    (ha : s0.heap.get? a = some { cls := .type "list", data := .seq vs.toArray }) (hi : IntsAre vs ns) (hl : ns.length ≤ n) (hz : n ≤ sizeLine) (room : Room k callerA)
    (F : ∀ base : Heap, K.In base → base.Ns mainGlobals mg → FnG P w K mg base k fa fd [x] (SpA K 1 (spLaw n))) (bind : ∀ (s : Shared) (u : Value), BindsTo s fd ⟨[u], []⟩ [(x, u)]) :
    codeAny (model P w) callerA (.call (.ref fa) ⟨[.ref a], []⟩) (fun r s' => r = .ok (.ret (.bool true)) ∧ OldK s0.heap s'.heap ∧ s'.os = s0.os ∧ AllBare s'.gens) s0 := by
  have rv := vals_ints hi
  have lv := hi.length
  have main : ∀ H : Hp, Only H → SqL K H a (ns.map V.int) → HOk P w H s0.heap → (∀ b, H b ≠ none → b = a ∧ K.lookup a = none) →
      codeAny (model P w) callerA (.call (.ref fa) ⟨[.ref a], []⟩) (fun r s' => r = .ok (.ret (.bool true)) ∧ OldK s0.heap s'.heap ∧ s'.os = s0.os ∧ AllBare s'.gens) s0 := by
    intro H hO hS ok hA
    have nd : ∀ c o es ep, s0.heap.get? c = some o → o.data = .dict es ep → H c = none := fun c o es ep e d => by
      apply Classical.byContradiction
      intro q
      obtain ⟨rfl, _⟩ := hA c q
      rw [ha] at e
      cases e
      exact nomatch d
    have inB : K.In (hidT s0.heap H) := fun b o e => hidT_get (KX b o e) (by
      apply Classical.byContradiction
      intro q
      obtain ⟨rfl, q2⟩ := hA b q
      rw [q2] at e
      cases e)
    have md : Mod K mg (hidT s0.heap H) := ⟨inB, hid_ns nd hns, ⟨mb, hid_ns nd hb, hbb⟩, let ⟨mc, q1, q2⟩ := hlim; ⟨mc, hid_ns nd q1, q2⟩⟩
    exact law_at (F _ inB (hid_ns nd hns)) room ⟨rfl, md, fun b o e => of_hidT e, Nat.le_of_eq (hidT_size _ _), trivial, fun b y => absurd y (by simp [frs]), ok, .of_eq hg⟩ bind hl hS hO
  cases hk : K.lookup a with
  | some o =>
    have e := KX a o hk
    rw [ha] at e
    cases e
    exact main (fun _ => none) (fun _ => .inl rfl) (.inr ⟨_, vs.toArray, _, hk, rfl, rfl, rfl, by rw [List.size_toArray, lv]; exact Nat.le_trans hl hz, by simpa using rv⟩) (fun b u z => nomatch z) fun b z => absurd rfl z
  | none =>
    have hat : ∀ b, b ≠ a → (fun b => if b = a then some (HO.frz { cls := .type "list", data := .seq vs.toArray } (.lst (ns.map V.int))) else none) b = none := fun b h => if_neg h
    refine main (fun b => if b = a then some (HO.frz { cls := .type "list", data := .seq vs.toArray } (.lst (ns.map V.int))) else none) (fun b => ?_) (.inl (.inr ⟨_, if_pos rfl⟩)) (fun b u z => ?_) fun b z => ?_
    · by_cases h : b = a
      · exact .inr ⟨_, _, if_pos h⟩
      · exact .inl (hat b h)
    · by_cases h : b = a
      · subst h
        have z2 := (if_pos rfl).symm.trans z
        cases z2
        exact ⟨ha, by rw [List.length_map]; exact Nat.le_trans hl hz, vs, _, rv, ha⟩
      · have z2 := (hat b h).symm.trans z
        cases z2
    · by_cases h : b = a
      · exact ⟨h, hk⟩
      · exact absurd (hat b h) z
theorem walk_go {l : PySem.W.OpenLaw} {k n : Nat} {q : Program} {loose : List Str} {XP : (Str → Option Value) → Heap → Prop} {YP : World → Heap → Prop} {d : DefRec} {K : Params → PySem.W.Frag} {x : Str} (hn : l.most = some n) (hz : n ≤ sizeLine) (hdf : d.params.defaults = []) (room : Room k callerA)
    (hY : ∀ (w : World) (h : Heap), YP w h → (K w.params).In h)
    (F : ∀ (w : World) (mg : Str → Option Value) (fa : Addr) (h : Heap), (K w.params).In h → h.Ns mainGlobals mg → mg d.name = some (.ref fa) → ∃ fd : FuncData, (∀ (s : Shared) (u : Value), BindsTo s fd ⟨[u], []⟩ [(x, u)]) ∧
      ∀ base : Heap, (K w.params).In base → base.Ns mainGlobals mg → FnG l.prog w (K w.params) mg base k fa fd [x] (SpA (K w.params) 1 (spLaw n))) : PySem.W.WalkO q loose XP YP l.row.toRowW d [] (fun f vs => PySem.call f vs) := by
  refine Att.attach_call hn hdf fun w _ s0 mg mb fa _ _ _ _ a vs ns G Y _ _ _ hm ho hi hl hg => ?_
  obtain ⟨fd, bind, hF⟩ := F w mg fa _ (hY w _ Y) G.T.g hm
  exact law_go (hY w _ Y) G.T.g G.T.b G.T.builtins G.T.nolimit hg ho hi hl hz room hF bind
end
end Ov
namespace Ov
open PySem PySem.Spec PyProof.Rows L2
/-! ## the box of numbers that all the laws draw from -/
def boxL (g : Addr) (now seed turn : Int) : List (Key × AV) := [(.inr "great", .own g), (.inr "now", .dat (.int now)), (.inr "seed", .dat (.int seed)), (.inr "turn", .dat (.int turn))]
theorem k_gn : ¬ (Str.ofString "great" = Str.ofString "now") := by decide +kernel
theorem k_gs : ¬ (Str.ofString "great" = Str.ofString "seed") := by decide +kernel
theorem k_gt : ¬ (Str.ofString "great" = Str.ofString "turn") := by decide +kernel
theorem k_ns : ¬ (Str.ofString "now" = Str.ofString "seed") := by decide +kernel
theorem k_nt : ¬ (Str.ofString "now" = Str.ofString "turn") := by decide +kernel
theorem k_st : ¬ (Str.ofString "seed" = Str.ofString "turn") := by decide +kernel
theorem k_sn : ¬ (Str.ofString "seed" = Str.ofString "now") := by decide +kernel
theorem k_tn : ¬ (Str.ofString "turn" = Str.ofString "now") := by decide +kernel
theorem k_ts : ¬ (Str.ofString "turn" = Str.ofString "seed") := by decide +kernel
theorem box_great {g : Addr} {a b c : Int} : valA (boxL g a b c) (.inr "great") = some (.own g) := by simp [valA, boxL]
theorem box_now {g : Addr} {a b c : Int} : valA (boxL g a b c) (.inr "now") = some (.dat (.int a)) := by simp [valA, boxL, k_gn]
theorem box_seed {g : Addr} {a b c : Int} : valA (boxL g a b c) (.inr "seed") = some (.dat (.int b)) := by simp [valA, boxL, k_gs, k_ns]
theorem box_turn {g : Addr} {a b c : Int} : valA (boxL g a b c) (.inr "turn") = some (.dat (.int c)) := by simp [valA, boxL, k_gt, k_nt, k_st]
theorem box_now_put {g : Addr} {a b c z : Int} : putA (boxL g a b c) (.inr "now") (.dat (.int z)) = boxL g z b c := by simp [putA, boxL, k_gn, k_sn, k_tn]
theorem box_seed_put {g : Addr} {a b c z : Int} : putA (boxL g a b c) (.inr "seed") (.dat (.int z)) = boxL g a z c := by simp [putA, boxL, k_gs, k_ns, k_ts]
theorem box_turn_put {g : Addr} {a b c z : Int} : putA (boxL g a b c) (.inr "turn") (.dat (.int z)) = boxL g a b z := by simp [putA, boxL, k_gt, k_nt, k_st]
theorem box_len {g : Addr} {a b c : Int} : (boxL g a b c).length ≤ 1000000 := by show 4 ≤ 1000000; decide
theorem box_nodup : ([.inr "great", .inr "now", .inr "seed", .inr "turn"] : List Key).Nodup := by decide +kernel
structure Box (d g : Addr) (S : Sto) : Prop where
  ne : d ≠ g
  dc : ∃ now seed turn : Int, S d = some (.dct (boxL g now seed turn))
  gr : ∃ ns : List Int, S g = some (.lst (dats (ns.map PyData.int)))
/-- all but d and g as it was -/
def Only2 (d g : Addr) (S S' : Sto) : Prop := ∀ a, a ≠ d → a ≠ g → S' a = S a
theorem Only2.refl {d g : Addr} (S : Sto) : Only2 d g S S := fun _ _ _ => rfl
theorem Only2.trans {d g : Addr} {S S1 S2 : Sto} (x : Only2 d g S S1) (y : Only2 d g S1 S2) : Only2 d g S S2 := fun a h1 h2 => (y a h1 h2).trans (x a h1 h2)
theorem Only2.setD {d g : Addr} {S S1 : Sto} {o : AO} (x : Only2 d g S S1) : Only2 d g S (S1.set d o) := fun a h1 h2 => (set_ne h1).trans (x a h1 h2)
theorem Only2.setG {d g : Addr} {S S1 : Sto} {o : AO} (x : Only2 d g S S1) : Only2 d g S (S1.set g o) := fun a h1 h2 => (set_ne h2).trans (x a h1 h2)
theorem Box.set_ne' {d g p : Addr} {S : Sto} {o : AO} (b : Box d g S) (h1 : d ≠ p) (h2 : g ≠ p) : Box d g (S.set p o) := ⟨b.ne, by rw [set_ne h1]; exact b.dc, by rw [set_ne h2]; exact b.gr⟩
theorem Box.del_ne' {d g p : Addr} {S : Sto} (b : Box d g S) (h1 : d ≠ p) (h2 : g ≠ p) : Box d g (S.del p) := ⟨b.ne, by rw [del_ne h1]; exact b.dc, by rw [del_ne h2]; exact b.gr⟩
theorem Box.ne_new {d g p : Addr} {S : Sto} (b : Box d g S) (h : S p = none) : d ≠ p ∧ g ≠ p := by
  obtain ⟨_, ⟨n, s, t, e1⟩, ⟨ns, e2⟩⟩ := b
  refine ⟨fun e => ?_, fun e => ?_⟩
  · subst e
    rw [h] at e1
    cases e1
  · subst e
    rw [h] at e2
    cases e2
theorem box_keep {d g p : Addr} {S S1 : Sto} (o : Only2 d g S S1) (h : d ≠ p ∧ g ≠ p) : S1 p = S p := o p (Ne.symm h.1) (Ne.symm h.2)
/-- a new box out of a script -/
def spBox : List AV → Sto → Po → Prop := fun as S P => ∃ (ns : List Int) (z : Int), as = [.scr ns, .dat (.int z)] ∧ ns.length ≤ 100 ∧ -1000 < z ∧ ∀ d g S', S d = none → S g = none → Box d g S' → Only2 d g S S' → P (.own d) S'
def spPick : List AV → Sto → Po → Prop := fun as S P => ∃ d g ds, as = [.own d, .dat (.list ds)] ∧ 0 < ds.length ∧ ds.length < 1000000 ∧ Box d g S ∧ ∀ (i : Nat) (x : PyData) S', ds[i]? = some x → Box d g S' → Only2 d g S S' → P (.dat x) S'
/-- the items that a thing has, told as a list of data -/
def ItemsAre (b : AV) (ds : List PyData) : Prop := b = .dat (.list ds) ∨ ∃ z : Str, b = .dat (.str z) ∧ z.length ≤ 1000 ∧ ds = (signs z).map PyData.str
def spMixed : List AV → Sto → Po → Prop := fun as S P => ∃ d g b ds, as = [.own d, b] ∧ ItemsAre b ds ∧ ds.length ≤ 1000 ∧ Box d g S ∧ ∀ (es : List PyData) S', es.Perm ds → Box d g S' → Only2 d g S S' → P (.dat (.list es)) S'
def spTake : List AV → Sto → Po → Prop := fun as S P => ∃ d g m, as = [.own d, .dat (.int m)] ∧ 0 < m ∧ m < 1000000 ∧ Box d g S ∧ ∀ (r : Int) S', 0 ≤ r → r < m → Box d g S' → Only2 d g S S' → P (.dat (.int r)) S'
theorem dats_map (l : List PyData) (d : PyData) : dats (l ++ [d]) = dats l ++ [.dat d] := by simp [dats]
theorem dats_get {l : List PyData} {i : Nat} {d : PyData} (h : l[i]? = some d) : (dats l)[i]? = some (.dat d) := by simp [dats, h]
theorem dats_erase (l : List PyData) (i : Nat) : (dats l).eraseIdx i = dats (l.eraseIdx i) := by
  unfold dats
  induction l generalizing i with
  | nil => rfl
  | cons a l ih => cases i with
    | zero => rfl
    | succ i => simp [ih]
theorem perm_erase {α : Type} : ∀ (l : List α) (i : Nat) (h : i < l.length), (l[i] :: l.eraseIdx i).Perm l
  | a :: l, 0, _ => List.Perm.refl _
  | a :: l, i + 1, h => by
    have ih := perm_erase l i (by simpa using h)
    show (l[i]'_ :: a :: l.eraseIdx i).Perm (a :: l)
    exact (List.Perm.swap a _ _).trans (List.Perm.cons a ih)
theorem eqv_int {i j : Int} : PyData.eqv (.int i) (.int j) = (i == j) := rfl
section
variable {K : PySem.W.Frag} {S : Sto} {δ : Dl} {R : Rr} {t u : TS}
theorem we_revO {te : TE} {P : Po} (h : WE K te δ S fun a S1 => ∃ ds, Nw S1 a (.list ds) ∧ ∀ q, S1 q = none → P (.own q) (S1.set q (.lst (dats ds.reverse)))) : WE K (tRevL K te) δ S P := fun σ H Q rs s k =>
  h σ H _ rs s fun x H1 a S1 g1 r1 ⟨ds, n, p⟩ => by
    obtain ⟨p1, xs, rfl, h1, h2⟩ := n.list g1.rs r1
    exact ⟨p1, xs, rfl, SqL.of h1, fun q hq => fin_newO g1.rs (fun v H' c S' g => k v H' c S' (g1.trans g)) (dqAll_rev h2) hq (p q)⟩
theorem cut_map {α : Type} (f : α → PyData) (l : List α) (lo hi : Option Int) : ∃ m : List α, cutD (l.map f) lo hi = m.map f ∧ m.length ≤ l.length :=
  ⟨(l.drop (HT.sIx l.length 0 lo)).take (HT.sIx l.length l.length hi - HT.sIx l.length 0 lo), by simp [cutD, List.map_drop, List.map_take], by simp; omega⟩
theorem getD_map {α : Type} (f : α → PyData) (l : List α) (i : Nat) (h : i < l.length) : (l.map f).getD i .none = f l[i] := by simp [List.getD_eq_getElem?_getD, h]
/-- a list of the store that is not asked for again -/
theorem ws_forget (l : Addr) (h : WS K t δ (S.del l) R) : WS K t δ S R := fun σ H D rs s f =>
  let g := Go.free l rs
  h σ H D g.rs (s.go g) (f.go g)
/-- a list that was changed is data from here on -/
theorem ws_freeze (i : Nat) {l : Addr} {ds : List PyData} (e : δ[i]? = some (some (.own l))) (hl : S l = some (.lst (dats ds))) (h : WS K t (δ.set i (some (.dat (.list ds)))) (S.del l) R) : WS K t δ S R := fun σ H D rs s f => by
  have g := Go.free l rs
  obtain ⟨v, e1, r⟩ := s.2 i _ e
  have r' : v = .ref l := r
  subst r'
  have z := ((s.go g).set i (ra_free_list rs hl))
  rw [show σ.set i (some (.ref l)) = σ from by
    obtain ⟨hi, e2⟩ := List.getElem?_eq_some_iff.mp e1
    rw [← e2]
    exact List.set_getElem_self hi] at z
  exact h σ H D g.rs z (f.go g)
/-- what is behind a statement, by what holds there -/
theorem ws_nx (M : Dl → Sto → Prop) (h1 : WS K t δ S { R with nx := M }) (h2 : ∀ δ' S', M δ' S' → R.nx δ' S') : WS K t δ S R := fun σ H D rs s f =>
  h1 σ H D rs s ⟨fun σ' H' δ' S' g s' q => f.nx σ' H' δ' S' g s' (h2 δ' S' q), f.rt, f.bk, f.ct⟩
theorem we_dgetS {td ty : TE} {P : Po} (h : WE K td δ S fun a S1 => WE K ty δ S1 fun b S2 => ∃ x q kvs c, b = .dat (.str x) ∧ a = .own q ∧ S2 q = some (.dct kvs) ∧ valA kvs (.inr x) = some c ∧ P c S2) : WE K (tDGet td ty) δ S P :=
  we_dget (h.imp fun a S1 w => w.imp fun b S2 ⟨x, q, kvs, c, e1, e2, e3, e4, p⟩ => ⟨q, kvs, .inr x, c, e2, e1, e3, e4, p⟩)
theorem ws_dputS {td ty tv : TE} (h : WE K tv δ S fun c S1 => WE K td δ S1 fun a S2 => WE K ty δ S2 fun b S3 => ∃ x q kvs, b = .dat (.str x) ∧ a = .own q ∧ S3 q = some (.dct kvs) ∧ kvs.length ≤ 1000000 ∧ R.nx δ (S3.set q (.dct (putA kvs (.inr x) c)))) : WS K (sDPut td ty tv) δ S R :=
  ws_dput (h.imp fun c S1 w => w.imp fun a S2 w2 => w2.imp fun b S3 ⟨x, q, kvs, e1, e2, e3, e4, p⟩ => ⟨q, kvs, .inr x, e2, e1, e3, e4, p⟩)
/-- two statements, by what holds between them -/
theorem ws_cut (M : Dl → Sto → Prop) (h1 : WS K t δ S { R with nx := M }) (h2 : ∀ δ' S', M δ' S' → WS K u δ' S' R) : WS K (tSeq t u) δ S R := fun σ H D rs s f =>
  h1 σ H { D with nx := u D } rs s ⟨fun σ' H' δ' S' g s' q => h2 δ' S' q σ' H' D g.rs s' (f.go g), f.rt, f.bk, f.ct⟩
theorem cx_K {CX : CXT} {P : Program} {w : World} {K : PySem.W.Frag} {mg : Str → Option Value} {base : Heap} {N : List Str} {q : Str} {sc : Scope} {f : Addr} {cd : Value} {A : Around} {out : List Env} {s : Shared} {H : Hp} {E : XK} :
    (cxOf CX P w K mg base N q sc f cd A out s H E).K = K := rfl
theorem nox_K {CX : CXT} {P : Program} {w : World} {K : PySem.W.Frag} {mg : Str → Option Value} {base : Heap} {N : List Str} {q : Str} {sc : Scope} {f : Addr} {cd : Value} {A : Around} {out : List Env} {s : Shared} {H : Hp} {E : XK} :
    (cxOf CX P w K mg base N q sc f cd A out s H E).nox.K = K := rfl
end
local macro_rules | `(tactic| walk_at "w") => `(tactic| with_reducible first
  | refine iteT ?_ | refine iteF ?_
  | refine ws_seq ?_ | refine ws_if ?_ | refine ws_set ?_ | refine ws_ret ?_ | refine ws_drop ?_ | refine ws_next ?_ | refine ws_dput ?_
  | refine wt_test ?_ | refine wt_and ?_ | refine wt_or ?_ | refine wt_not ?_ | refine wt_tru ?_ | refine wt_B ?_
  | refine we_op ?_ | refine we_cb ?_ | refine we_dget ?_ | refine wa_cons ?_ | refine wa_nil ?_ | refine we_var rfl ?_ | refine we_int ?_ | refine we_str ?_ | refine we_bl ?_ | refine we_non ?_
  | refine w2_addI ?_ | refine w2_sub ?_ | refine w2_I0 ?_ | refine we_call ?_ | refine we_un ?_ | refine w1_neg ?_ | refine we_sl ?_ | refine wo_none ?_ | refine wo_some ?_ | refine we_notT ?_ | refine we_if ?_ | refine ⟨_, rfl, ?_⟩)
end Ov
namespace Ov
open PySem PySem.Spec PyProof.Rows L2
section
variable {K : PySem.W.Frag} {S : Sto} {H : Hp} {v x y : V} {a b : AV} {d e : PyData} {P : Po} {te to : TE} {δ : Dl}
/-! ## in, not in; texts -/
def rStrIn (neg : Bool) : R2 := fun x y H Q => ∃ i j, x = .str i ∧ y = .str j ∧ Q (.bl (if neg then !(!(Builtin.Str.occurrences j i 0 j.length 1).isEmpty) else !(Builtin.Str.occurrences j i 0 j.length 1).isEmpty)) H
def rInA (K : PySem.W.Frag) (neg : Bool) : R2 := fun x y H Q => rIn K neg x y H Q ∨ rStrIn neg x y H Q
theorem op_inA {X : Cx} : OpR X (compareOp .In) (rInA X.K false) := op_in_seq.or op_in_str
theorem op_notInA {X : Cx} : OpR X (compareOp .NotIn) (rInA X.K true) := op_notIn_seq.or op_notIn_str
theorem dq_strs_inv : ∀ {l : List Str} {xs : List V}, DqAll K H xs (l.map PyData.str) → xs = l.map V.str
  | [], _, h => by cases h; rfl
  | c :: l, _, h => by
    cases h with
    | cons h1 h2 =>
      cases h1
      rw [dq_strs_inv h2]
      rfl
theorem inV_strs {x : Str} : ∀ l : List Str, inV (.str x) (l.map V.str) = decide (x ∈ l)
  | [] => rfl
  | c :: l => by
    have ih := inV_strs (x := x) l
    unfold inV at ih ⊢
    rw [List.map_cons, List.any_cons, ih]
    show (c == x || decide (x ∈ l)) = decide (x ∈ c :: l)
    by_cases h : x = c
    · subst h
      simp
    · have : (c == x) = false := by simpa using fun e => h e.symm
      rw [this]
      simp [h]
theorem flat_strs : ∀ l : List Str, (l.map V.str).all flatV = true
  | [] => rfl
  | c :: l => by rw [List.map_cons, List.all_cons, flat_strs l]; rfl
theorem w2_inS {neg : Bool} {x : Str} {l : List Str} (n : Nw S b (.list (l.map PyData.str)) ∨ Nw S b (.tuple (l.map PyData.str))) (p : P (.dat (.bool (if neg then !decide (x ∈ l) else decide (x ∈ l)))) S) : W2 K (rInA K neg) (.dat (.str x)) b S P := fun u y H Q rs ra rb k => by
  cases ra
  rcases n with n | n
  · obtain ⟨p1, xs, rfl, h1, h2⟩ := n.list rs rb
    have := dq_strs_inv h2
    subst this
    refine .inl ⟨p1, _, rfl, .inl (SqL.of h1), rfl, flat_strs l, ?_⟩
    rw [inV_strs]
    exact fin_d rs k (Dq.bl _) p
  · obtain ⟨p1, xs, rfl, h1, h2⟩ := n.tup rs rb
    have := dq_strs_inv h2
    subst this
    refine .inl ⟨p1, _, rfl, .inr (ex_t msk_ex h1), rfl, flat_strs l, ?_⟩
    rw [inV_strs]
    exact fin_d rs k (Dq.bl _) p
theorem we_join (h : WE K to δ S fun a S1 => ∃ z, a = .dat (.str z) ∧ WE K te δ S1 fun b S2 => ∃ ys : List Str, (Nw S2 b (.list (ys.map PyData.str)) ∨ Nw S2 b (.tuple (ys.map PyData.str))) ∧ (ys.map (·.length)).sum + ys.length * z.length ≤ 10000000 ∧ P (.dat (.str (Txt.join z ys))) S2) :
    WE K (tM1 (fun x xs H Q => ∃ a p, ∃ ys : List Str, x = .str a ∧ xs = [.ref p] ∧ (SqL K H p (ys.map V.str) ∨ SqT K H p (ys.map V.str)) ∧ (ys.map (·.length)).sum + ys.length * a.length ≤ 16777216 ∧ Q (.str (Txt.join a ys)) H) to te) δ S P := fun σ H Q rs s k =>
  h σ H _ rs s fun x H1 a S1 g1 r1 ⟨z, e, w⟩ => by
    subst e
    cases r1
    refine ⟨⟨z, rfl⟩, w σ H1 _ g1.rs (s.go g1) fun y H2 b S2 g2 r2 ⟨ys, n, hz, p⟩ => ?_⟩
    rcases n with n | n
    · obtain ⟨p1, xs, rfl, h1, h2⟩ := n.list g2.rs r2
      have := dq_strs_inv h2
      subst this
      exact ⟨z, p1, ys, rfl, rfl, .inl (SqL.of h1), Nat.le_trans hz (by decide), k _ H2 (.dat (.str (Txt.join z ys))) S2 (g1.trans g2) (Dq.str _) p⟩
    · obtain ⟨p1, xs, rfl, h1, h2⟩ := n.tup g2.rs r2
      have := dq_strs_inv h2
      subst this
      exact ⟨z, p1, ys, rfl, rfl, .inr (ex_t msk_ex h1), Nat.le_trans hz (by decide), k _ H2 (.dat (.str (Txt.join z ys))) S2 (g1.trans g2) (Dq.str _) p⟩
theorem we_split (h : WE K to δ S fun a S1 => ∃ z, a = .dat (.str z) ∧ WE K te δ S1 fun b S2 => ∃ u, b = .dat (.str u) ∧ (u.length == 0) = false ∧ z.length ≤ 1000000 ∧ P (.dat (.list ((Txt.split z u).map PyData.str))) S2) :
    WE K (tM1 (fun x xs H Q => ∃ a b, x = .str a ∧ xs = [.str b] ∧ (b.length == 0) = false ∧ a.length + 2 ≤ sizeLine ∧ rNewStrs (Txt.split a b) H Q) to te) δ S P := fun σ H Q rs s k =>
  h σ H _ rs s fun x H1 a S1 g1 r1 ⟨z, e, w⟩ => by
    subst e
    cases r1
    refine ⟨⟨z, rfl⟩, w σ H1 _ g1.rs (s.go g1) fun y H2 b S2 g2 r2 ⟨u, e, h0, hz, p⟩ => ?_⟩
    subst e
    cases r2
    refine ⟨z, u, rfl, rfl, h0, Nat.le_trans (Nat.add_le_add_right hz 2) (by decide), fun q hq => ?_⟩
    exact fin_newL g2.rs (fun v H' c S' g => k v H' c S' ((g1.trans g2).trans g)) (dq_strs _) p hq
end
/-! ## names -/
abbrev cs (x : Str) : List Nat := x.cps.toList
theorem str_ext {x y : Str} (h : cs x = cs y) : x = y := TL.ext_tl h
theorem cs_app (x y : Str) : cs (x ++ y) = cs x ++ cs y := TL.tl_append x y
theorem cs_len (x : Str) : (cs x).length = x.length := rfl
theorem cs_join0 : ∀ ys : List Str, cs (Txt.join "" ys) = (ys.map cs).flatten := by
  intro ys
  have e : Txt.join "" ys = Str.join "" ys := TL.join_eq _ _
  rw [e]
  show TL.tl (Str.join "" ys) = _
  rw [TL.tl_join]
  have go : ∀ l : List (List Nat), TL.joinL (TL.tl "") l = l.flatten := by
    intro l
    induction l with
    | nil => rfl
    | cons a l ih =>
      cases l with
      | nil => simp [TL.joinL]
      | cons b l =>
        rw [TL.joinL, ih] <;> first | rfl | exact fun h => (nomatch h)
  exact go _
def lower (c : Nat) : Prop := 97 ≤ c ∧ c ≤ 122
instance (c : Nat) : Decidable (lower c) := inferInstanceAs (Decidable (_ ∧ _))
def NameOk (x : Str) : Prop := 1 ≤ x.length ∧ x.length ≤ 8 ∧ ∀ c ∈ cs x, lower c
instance (x : Str) : Decidable (NameOk x) := inferInstanceAs (Decidable (_ ∧ _ ∧ _))
def lets : Str := "abcdefghijklmnopqrstuvwxyz"
theorem lets_cs : cs lets = List.range' 97 26 := by decide +kernel
def badWords : List Str := ["if", "then", "else", "not", "both", "and", "either", "or", "is", "none", "fail", "ask", "with", "giving", "failing", "inner", "unanswered", "before", "after", "early", "late", "wraps"].map Str.ofString
def goodWords : List Str := ["plugin", "on", "first", "each", "through", "number", "word", "main", "hook", "host", "call", "size", "mode", "text", "order", "ring"].map Str.ofString
theorem split_good : Txt.split "plugin on first each through number word main hook host call size mode text order ring" " " = goodWords := by decide +kernel
theorem split_bad : Txt.split ((Str.ofString "if then else not both and either or is none fail ask with giving failing inner unanswered") ++ (Str.ofString " before after early late wraps")) " " = badWords := by decide +kernel
theorem good_ok : ∀ x ∈ goodWords, NameOk x := by decide +kernel
/-- a list without repeats, within another one, is no longer -/
theorem nodup_le {α : Type} [DecidableEq α] : ∀ {l m : List α}, l.Nodup → (∀ x ∈ l, x ∈ m) → l.length ≤ m.length
  | [], m, _, _ => Nat.zero_le _
  | a :: l, m, hn, hs => by
    have ha := hs a (by simp)
    have h2 : l.length ≤ (m.erase a).length := nodup_le (List.nodup_cons.mp hn).2 fun x hx => by
      have hne : x ≠ a := fun e => (List.nodup_cons.mp hn).1 (e ▸ hx)
      exact (List.mem_erase_of_ne hne).mpr (hs x (List.mem_cons_of_mem _ hx))
    rw [List.length_erase_of_mem ha] at h2
    have := List.length_pos_of_mem ha
    simp
    omega
theorem filter_split {α : Type} (p : α → Bool) (l : List α) : (l.filter p).length + (l.filter fun x => !p x).length = l.length := by
  induction l with
  | nil => rfl
  | cons a l ih =>
    cases h : p a <;> simp [h] <;> omega
/-- at least four of six and twenty are left -/
theorem left_over {l ins : List Str} (hi : ins.Nodup) (h26 : ins.length = 26) (hl : ∀ x ∈ ins, x ∉ badWords → x ∈ l) : 4 ≤ l.length := by
  have h1 := filter_split (fun x => decide (x ∈ badWords)) ins
  have h2 : (ins.filter fun x => decide (x ∈ badWords)).length ≤ badWords.length := nodup_le (hi.filter _) fun x hx => by simpa using (List.mem_filter.mp hx).2
  have h3 : (ins.filter fun x => !decide (x ∈ badWords)).length ≤ l.length := nodup_le (hi.filter _) fun x hx => by
    obtain ⟨q1, q2⟩ := List.mem_filter.mp hx
    exact hl x q1 (by simpa using q2)
  have h4 : badWords.length = 22 := by decide +kernel
  omega
theorem perm_map {α β : Type} {f : α → β} : ∀ {es m : List β}, es.Perm m → ∀ l : List α, m = l.map f → ∃ l' : List α, l'.Perm l ∧ es = l'.map f := by
  intro es m h
  induction h with
  | nil =>
    intro l e
    have : l = [] := by simpa using e.symm
    subst this
    exact ⟨[], List.Perm.refl _, rfl⟩
  | cons x h ih =>
    intro l e
    match l, e with
    | a :: l, e =>
      injection e with e1 e2
      obtain ⟨l', q1, q2⟩ := ih l e2
      exact ⟨a :: l', q1.cons a, by rw [q2, List.map_cons, e1]⟩
  | swap x y r =>
    intro l e
    match l, e with
    | a :: b :: l, e =>
      injection e with e1 e2
      injection e2 with e2 e3
      exact ⟨b :: a :: l, List.Perm.swap .., by rw [List.map_cons, List.map_cons, e1, e2, e3]⟩
  | trans h1 h2 ih1 ih2 =>
    intro l e
    obtain ⟨l1, q1, q2⟩ := ih2 l e
    obtain ⟨l2, q3, q4⟩ := ih1 l1 q2
    exact ⟨l2, q3.trans q1, q4⟩
theorem cut_to (ds : List PyData) (i : Nat) : cutD ds none (some (i : Int)) = ds.take i := by
  unfold cutD
  rw [HT.sIx_none, HT.sIx_nat, List.drop_zero, Nat.sub_zero]
  by_cases h : i ≤ ds.length
  · rw [Nat.min_eq_left h]
  · rw [Nat.min_eq_right (by omega), List.take_length, List.take_of_length_le (by omega)]
theorem cut_from (ds : List PyData) (i : Nat) : cutD ds (some (i : Int)) none = ds.drop i := by
  unfold cutD
  rw [HT.sIx_none, HT.sIx_nat]
  by_cases h : i ≤ ds.length
  · rw [Nat.min_eq_left h, List.take_of_length_le (by rw [List.length_drop] <;> omega)]
  · rw [Nat.min_eq_right (by omega), Nat.sub_self, List.take_zero, List.drop_of_length_le (by omega)]
theorem cutS_to (z : Str) (i : Nat) : cs (cutS z none (some (i : Int))) = (cs z).take i := by
  unfold cutS
  rw [HT.sIx_none, HT.sIx_nat, List.drop_zero, Nat.sub_zero]
  show (cs z).take (min i z.length) = _
  by_cases h : i ≤ z.length
  · rw [Nat.min_eq_left h]
  · rw [Nat.min_eq_right (by omega), ← cs_len, List.take_length, List.take_of_length_le (by rw [cs_len] <;> omega)]
theorem cutS_from (z : Str) (i : Nat) : cs (cutS z (some (i : Int)) none) = (cs z).drop i := by
  unfold cutS
  rw [HT.sIx_none, HT.sIx_nat]
  show ((cs z).drop (min i z.length)).take (z.length - min i z.length) = _
  rw [← cs_len]
  by_cases h : i ≤ (cs z).length
  · rw [Nat.min_eq_left h, List.take_of_length_le (by rw [List.length_drop] <;> omega)]
  · rw [Nat.min_eq_right (by omega), Nat.sub_self, List.take_zero, List.drop_of_length_le (by omega)]
/-- a letter put into a stem -/
def ins (z : Str) (i : Nat) (y : Str) : Str := cutS z none (some (i : Int)) ++ y ++ cutS z (some (i : Int)) none
theorem ins_cs (z : Str) (i : Nat) (y : Str) : cs (ins z i y) = (cs z).take i ++ cs y ++ (cs z).drop i := by
  unfold ins
  rw [cs_app, cs_app, cutS_to, cutS_from]
theorem ins_inj {z : Str} {i : Nat} {x y : Str} (h : ins z i x = ins z i y) : x = y := by
  have e := congrArg cs h
  rw [ins_cs, ins_cs] at e
  exact str_ext (List.append_cancel_left (List.append_cancel_right e))
theorem ins_ok {z : Str} {i : Nat} {y : Str} (hz : z.length ≤ 7) (hc : ∀ c ∈ cs z, lower c) (hy : ∃ c, cs y = [c] ∧ lower c) : NameOk (ins z i y) := by
  obtain ⟨c, e, hl⟩ := hy
  have hlen : (ins z i y).length = z.length + 1 := by
    rw [← cs_len, ins_cs, e, ← cs_len z]
    simp
    omega
  refine ⟨by omega, by omega, fun u hu => ?_⟩
  rw [ins_cs, e] at hu
  rcases List.mem_append.mp hu with hu | hu
  · rcases List.mem_append.mp hu with hu | hu
    · exact hc u (List.mem_of_mem_take hu)
    · have : u = c := by simpa using hu
      rw [this]
      exact hl
  · exact hc u (List.mem_of_mem_drop hu)
theorem lets_at {i : Nat} (h : i < 26) : ∃ c, (cs lets)[i]? = some c ∧ lower c := by
  rw [lets_cs]
  refine ⟨97 + i, by simp [List.getElem?_range', h], ?_⟩
  unfold lower
  omega
theorem signs_one {z y : Str} (h : y ∈ signs z) : ∃ c ∈ cs z, cs y = [c] := by
  unfold signs at h
  obtain ⟨c, h1, h2⟩ := List.mem_map.mp h
  exact ⟨c, h1, by rw [← h2]⟩
theorem signs_lets_nodup : (signs lets).Nodup := by decide +kernel
theorem signs_lets_len : (signs lets).length = 26 := by decide +kernel
theorem lets_lower : ∀ c ∈ cs lets, lower c := by
  rw [lets_cs]
  intro c hc
  have := List.mem_range'.mp hc
  unfold lower
  omega
def spNames : List AV → Sto → Po → Prop := fun as S P => ∃ d g m, as = [.own d, .dat (.int (m : Nat))] ∧ 1 ≤ m ∧ m ≤ 4 ∧ Box d g S ∧ ∀ (ns : List Str) S', ns.length = m → ns.Nodup → (∀ x ∈ ns, NameOk x ∧ x ∉ badWords) → Box d g S' → Only2 d g S S' → P (.dat (.list (ns.map PyData.str))) S'
/-! ## hooks, as the laws tell them -/
structure Pm where
  n : Str
  s : Str
  v : PyData
def Pm.d (p : Pm) : PyData := .tuple [.str p.n, .str p.s, p.v]
def sortOk (s : Str) : Prop := s = "number" ∨ s = "word"
def valOk (s : Str) (v : PyData) : Prop := (s = "word" ∧ ∃ w, v = .str w ∧ NameOk w) ∨ (s = "number" ∧ ∃ k, v = .int k ∧ -1000 ≤ k ∧ k ≤ 1000)
structure HookOk (kind : Str) (ps qs : List Pm) (outs : Str) : Prop where
  len : ps.length + qs.length ≤ 3
  nd : ((ps ++ qs).map (·.n)).Nodup
  nm : ∀ p ∈ ps ++ qs, NameOk p.n ∧ p.n ∉ badWords
  st : ∀ p ∈ ps ++ qs, sortOk p.s
  vl : ∀ p ∈ ps ++ qs, p.v = .none ∨ valOk p.s p.v
  mono : ∀ (i j : Nat) (p q : Pm), i < j → ps[i]? = some p → ps[j]? = some q → p.v ≠ .none → q.v ≠ .none
  thr : kind = "through" → ∃ p r, ps = p :: r ∧ p.v = .none ∧ outs = p.s
  outs : sortOk outs
def hookD (name kind : Str) (ps qs : List Pm) (outs : Str) : PyData := .tuple [.str name, .str kind, .list (ps.map Pm.d), .list (qs.map Pm.d), .str outs]
def spValue : List AV → Sto → Po → Prop := fun as S P => ∃ d g s, as = [.own d, .dat (.str s)] ∧ sortOk s ∧ Box d g S ∧ ∀ v S', valOk s v → Box d g S' → Only2 d g S S' → P (.dat v) S'
def kindOk (k : Str) : Prop := k = "first" ∨ k = "through" ∨ k = "each"
def spHook : List AV → Sto → Po → Prop := fun as S P => ∃ d g name kind, as = [.own d, .dat (.str name), .dat (.str kind)] ∧ kindOk kind ∧ Box d g S ∧ ∀ ps qs outs S', HookOk kind ps qs outs → Box d g S' → Only2 d g S S' → P (.dat (hookD name kind ps qs outs)) S'
def valWords : List Str := ["red", "soft", "a", "red", "none", "abcdefgh"].map Str.ofString
theorem valWords_ok : ∀ x ∈ valWords, NameOk x := by decide +kernel
theorem num_ne_word : ¬ (Str.ofString "number" = Str.ofString "word") := by decide +kernel
theorem eqv_str {x y : Str} : PyData.eqv (.str x) (.str y) = (x == y) := rfl
def sortsL : List PyData := [.str "number", .str "number", .str "word"]
theorem sorts_at {j : Nat} {x : PyData} (h : sortsL[j]? = some x) : ∃ s, x = .str s ∧ sortOk s := by
  have hm := List.mem_of_getElem? h
  unfold sortsL at hm
  rcases List.mem_cons.mp hm with e | hm
  · exact ⟨_, e, .inl rfl⟩
  rcases List.mem_cons.mp hm with e | hm
  · exact ⟨_, e, .inl rfl⟩
  · exact ⟨_, by simpa using hm, .inr rfl⟩
/-- the parameters that are told so far -/
structure SomeOk (kind : Str) (ns : List Str) (wd : Nat) (l : List Pm) (late : Bool) : Prop where
  nm : ∀ (i : Nat) (p : Pm), l[i]? = some p → ns[i]? = some p.n
  st : ∀ p ∈ l, sortOk p.s
  vl : ∀ p ∈ l, p.v = .none ∨ valOk p.s p.v
  mono : ∀ (i j : Nat) (p q : Pm), i < j → j < wd → l[i]? = some p → l[j]? = some q → p.v ≠ .none → q.v ≠ .none
  last : ∀ p, l.getLast? = some p → (p.v ≠ .none → late = true)
  thr : kind = "through" → ∀ p, l[0]? = some p → p.v = .none
theorem SomeOk.nil {kind : Str} {ns : List Str} {wd : Nat} : SomeOk kind ns wd [] false :=
  ⟨fun _ _ h => by simp at h, fun _ h => (nomatch h), fun _ h => (nomatch h), fun _ _ _ _ _ _ h => by simp at h, fun _ h => by simp at h, fun _ _ h => by simp at h⟩
theorem valOk.ne {s : Str} {v : PyData} (h : valOk s v) : v ≠ .none := by
  rintro rfl
  rcases h with ⟨_, w, e, _⟩ | ⟨_, k, e, _⟩ <;> cases e
theorem SomeOk.snoc {kind : Str} {ns : List Str} {wd : Nat} {l : List Pm} {late c c2 : Bool} {i : Nat} {n st : Str} {v : PyData} (h : SomeOk kind ns wd l late) (hl : l.length = i) (hn : ns[i]? = some n) (hs : sortOk st) (hc : late = true → i < wd → c = true) (h2 : (c && !(decide (kind = "through") && decide (i = 0))) = c2) (hv : (c2 = true ∧ valOk st v) ∨ (c2 = false ∧ v = .none)) : SomeOk kind ns wd (l ++ [⟨n, st, v⟩]) c2 := by
  subst hl
  have old : ∀ (j : Nat) (p : Pm), (l ++ [⟨n, st, v⟩])[j]? = some p → l[j]? = some p ∨ (j = l.length ∧ p = ⟨n, st, v⟩) := by
    intro j p hj
    rcases Nat.lt_trichotomy j l.length with hlt | he | hgt
    · exact .inl (by rwa [List.getElem?_append_left hlt] at hj)
    · subst he
      rw [List.getElem?_append_right (Nat.le_refl _)] at hj
      simp at hj
      exact .inr ⟨rfl, hj.symm⟩
    · rw [List.getElem?_eq_none (by simp; omega)] at hj
      cases hj
  refine ⟨fun j p hj => ?_, fun p hp => ?_, fun p hp => ?_, fun a b p q hab hbw ha hb hpv => ?_, fun p hp hpv => ?_, fun ht p hp => ?_⟩
  · rcases old j p hj with h1 | ⟨rfl, rfl⟩
    · exact h.nm j p h1
    · exact hn
  · rcases List.mem_append.mp hp with h1 | h1
    · exact h.st p h1
    · rw [List.mem_singleton.mp h1]; exact hs
  · rcases List.mem_append.mp hp with h1 | h1
    · exact h.vl p h1
    · rw [List.mem_singleton.mp h1]
      exact hv.elim (fun z => .inr z.2) (fun z => .inl z.2)
  · rcases old b q hb with h1 | ⟨rfl, rfl⟩
    · have hbl : b < l.length := by
        by_cases z : b < l.length
        · exact z
        · rw [List.getElem?_eq_none (by omega)] at h1; cases h1
      rcases old a p ha with h3 | ⟨rfl, rfl⟩
      · exact h.mono a b p q hab hbw h3 h1 hpv
      · omega
    · rcases old a p ha with h3 | ⟨rfl, rfl⟩
      · have hla : late = true := by
          obtain ⟨z, hz⟩ : ∃ z, l[l.length - 1]? = some z := ⟨l[l.length - 1], List.getElem?_eq_getElem (by omega)⟩
          have hz' : l.getLast? = some z := by rw [List.getLast?_eq_getElem?]; exact hz
          refine h.last z hz' ?_
          by_cases e : a = l.length - 1
          · subst e
            rw [h3] at hz
            cases hz
            exact hpv
          · exact h.mono a (l.length - 1) p z (by omega) (by omega) h3 hz hpv
        have hct := hc hla hbw
        have e0 : decide (l.length = 0) = false := decide_eq_false (by omega)
        rw [hct, e0] at h2
        simp at h2
        rcases hv with ⟨_, hv⟩ | ⟨hv, _⟩
        · exact hv.ne
        · simp [h2] at hv
      · omega
  · rw [List.getLast?_append] at hp
    simp at hp
    subst hp
    rcases hv with ⟨e, _⟩ | ⟨_, e⟩
    · exact e
    · exact absurd e hpv
  · rcases old 0 p hp with h1 | ⟨e, rfl⟩
    · exact h.thr ht p h1
    · rcases hv with ⟨e2, _⟩ | ⟨_, e2⟩
      · rw [decide_eq_true ht, decide_eq_true e.symm] at h2
        simp at h2
        simp [h2] at e2
      · exact e2
end Ov
namespace Ov
open PySem PySem.Spec PyProof.Rows L2
/-! ## the rules with the written part told by its name (within a comprehension it is the def's) -/
section
variable {X : Cx} (K : PySem.W.Frag)
theorem op_addK (h : X.K = K := by rfl) : OpR X (binaryOp .Add) (rAddA K) := h ▸ op_addA
theorem op_eqK (hu : X.A.units + 64 < cLine) (h : X.K = K := by rfl) : OpR X (compareOp .Eq) (rEqA K) := h ▸ op_eqA hu
theorem op_neK (hu : X.A.units + 64 < cLine) (h : X.K = K := by rfl) : OpR X (compareOp .NotEq) (rNeA K) := h ▸ op_neA hu
theorem op_inK (h : X.K = K := by rfl) : OpR X (compareOp .In) (rInA K false) := h ▸ op_inA
theorem op_notInK (h : X.K = K := by rfl) : OpR X (compareOp .NotIn) (rInA K true) := h ▸ op_notInA
theorem ix_seqK (h : X.K = K := by rfl) : IxR X (rIx K) := h ▸ ix_seq
theorem sl_anyK (h : X.K = K := by rfl) : SlR X (rSlAny K) := h ▸ sl_any
theorem call_lenK (h : X.K = K := by rfl) : CallR X (.builtin "len") (fun xs H Q => ∃ x n, xs = [x] ∧ LenV K x H n ∧ Q (.int n) H) := h ▸ call_len
theorem call_listK (hc : X.A.handled = none) (h : X.K = K := by rfl) : CallR X (.type "list") (rListA K) := h ▸ call_listA hc
def rTupOf (K : PySem.W.Frag) : List V → Hp → VK → Prop := fun xs H Q => ∃ p ys, xs = [.ref p] ∧ ((SqL K H p ys ∧ ∀ l, H l = none → Q (.ref l) (upd H l (.tup ys))) ∨ (SqT K H p ys ∧ Q (.ref p) H))
theorem call_tupleK (h : X.K = K := by rfl) : CallR X (.type "tuple") (rTupOf K) := h ▸ call_tuple_of
theorem call_reprK (hG : X.A.guards = some []) (hu : X.A.units + 64 < cLine) (h : X.K = K := by rfl) : CallR X (.builtin "repr") (rReprD K) := h ▸ call_reprD hG hu
variable {a b e : Expr} {rest : List Expr} {pos apos cpos : Pos} {ta tb to te : TE} {t : TA} {T : String} {id : String} {name : Str} {r : V → List V → Hp → VK → Prop}
theorem pe_andK (ha : PE X a ta) (hb : PE X (.BoolOp .And (b :: rest) pos) tb) (h : X.K = K := by rfl) : PE X (.BoolOp .And (a :: b :: rest) pos) (tAndT K ta tb) := h ▸ pe_andT ha hb
theorem pe_orK (ha : PE X a ta) (hb : PE X (.BoolOp .Or (b :: rest) pos) tb) (h : X.K = K := by rfl) : PE X (.BoolOp .Or (a :: b :: rest) pos) (tOrT K ta tb) := h ▸ pe_orT ha hb
theorem pe_notK (ha : PE X a ta) (h : X.K = K := by rfl) : PE X (.UnaryOp .Not a pos) (tNotT K ta) := h ▸ pe_notT ha
theorem pg_tupK {es : List Expr} {k : Nat} {t : TGs} {n : Nat} (hc : X.calm = true) (hg : PGs X es t) (hn : (assignEach es X.env).length = n := by rfl) (hst : (assignEach es X.env).findIdx? (·.1) = none := by rfl) (h : X.K = K := by rfl) : PG X (.Tuple es k pos) (gTup K n t) := h ▸ pg_tup hc hg hn hst
theorem pe_fldK {f : Str} (he : PE X e te) (hb : attributeBase e f X.env (eval e X.env) = eval e X.env) (h : X.K = K := by rfl) : PE X (.Attribute e f pos) (tFld K te f) := h ▸ pe_fld he hb
theorem pe_revK {k : Nat} {p1 p2 p3 : Pos} (he : PE X e te) (h : X.K = K := by rfl) : PE X (.Subscript e (.Slice none none (some (.UnaryOp .USub (.Constant (.int 1) k p1) p2)) p3) pos) (tRevL K te) := h ▸ pe_revL he
theorem pi_listK {tg : Expr} (he : PE X e te) (h : X.K = K := by rfl) : PI X tg e (iList K te) := h ▸ pi_list he
theorem pi_tupK {tg : Expr} (he : PE X e te) (h : X.K = K := by rfl) : PI X tg e (iTup K te) := h ▸ pi_tup he
theorem pi_enumK {p tpos : Pos} {elts : List Expr} {kk : Nat} (hg : Gl X "enumerate") (hm : X.mg "enumerate" = none) (ha : PA X [e] t) (hs : starEach [e] X.env = [(false, eval e X.env)] := by rfl) (h : X.K = K := by rfl) : PI X (.Tuple elts kk tpos) (.Call (.Name "enumerate" p) [e] [] pos) (iEnum K t) := h ▸ pi_enum hg hm ha hs
theorem pi_zipK {e2 : Expr} {p tpos : Pos} {elts : List Expr} {kk : Nat} (hg : Gl X "zip") (hm : X.mg "zip" = none) (ha : PA X [e, e2] t) (hs : starEach [e, e2] X.env = (false, eval e X.env) :: starEach [e2] X.env := by rfl) (hpl : (backTo pos (starEach [e2] X.env)).any (·.1) = false := by rfl) (h : X.K = K := by rfl) :
    PI X (.Tuple elts kk tpos) (.Call (.Name "zip" p) [e, e2] [] pos) (iZip K t) := h ▸ pi_zip hg hm ha hs hpl
theorem pe_bm0K {o : Expr} (pa : PlainAttrs T) (slot : Slot T name id) (hty : typeOf (.builtin id) = pure (.type "method_descriptor")) (hm : MtR X id r) (ho : PE X o to) (hbase : attributeBase o name X.env (eval o X.env) = eval o X.env := by rfl) (hline : (apos.endLine == cpos.line) = true := by rfl) (h : X.K = K := by rfl) :
    PE X (.Call (.Attribute o name apos) [] [] cpos) (tBM0 K T r to) := h ▸ pe_bm0 pa slot hty hm ho hbase hline
theorem pe_bmK {o : Expr} {es : List Expr} (pa : PlainAttrs T) (slot : Slot T name id) (hty : typeOf (.builtin id) = pure (.type "method_descriptor")) (hm : MtR X id r) (ho : PE X o to) (ha : PA X (e :: es) t) (hbase : attributeBase o name X.env (eval o X.env) = eval o X.env := by rfl)
    (hfew : ((backTo cpos (starEach (e :: es) X.env)).all (fun x => !x.1) && (backToKw cpos (keywordEach [] X.env)).all (fun x => x.1.isSome) && decide ((e :: es).length + ([] : List Keyword).length + (if ([] : List Keyword).isEmpty then 0 else 1) < 30)) = true := by rfl)
    (hline : (apos.endLine == cpos.line) = true := by rfl) (hs : starEach (e :: es) X.env = (false, eval e X.env) :: starEach es X.env := by rfl) (hplain : (backTo cpos (starEach es X.env)).any (·.1) = false := by rfl) (h : X.K = K := by rfl) :
    PE X (.Call (.Attribute o name apos) (e :: es) [] cpos) (tBM K T r to t) := h ▸ pe_bm pa slot hty hm ho ha hbase hfew hline hs hplain
def tTruK (K : PySem.W.Frag) (te : TE) : TT := fun σ H Q => te σ H fun x H' => ∃ k, TruV K x H' k ∧ Q k H'
theorem pt_truK (ha : PE X a ta) (he : ∀ whole : Sem Value, isTrue a X.env whole = (do let v ← whole; standAt a.pos; holding [v] (truthy v))) (h : X.K = K := by rfl) : PT X a (tTruK K ta) := h ▸ pt_truth ha he
end
section
variable {K : PySem.W.Frag} {te : TE} {δ : Dl} {S : Sto}
theorem wt_truK {P : Bool → Sto → Prop} (h : WE K te δ S fun a S1 => ∃ d, Nw S1 a d ∧ shortD d ∧ P (truD d) S1) : WT K (tTruK K te) δ S P := wt_tru h
end
end Ov
namespace Ov
open PySem PySem.Spec PyProof.Rows L2
/-! ## bodies: what the laws draw -/
def nsD (p : Str × Str) : PyData := .tuple [.str p.1, .str p.2]
def wldL (ps : List (Str × Str)) (gv : Str) (t p : Int) : List (Key × AV) := [(.inr "params", .dat (.list (ps.map nsD))), (.inr "gives", .dat (.str gv)), (.inr "tests", .dat (.int t)), (.inr "plus", .dat (.int p))]
theorem k_pg : ¬ (Str.ofString "params" = Str.ofString "gives") := by decide +kernel
theorem k_pt : ¬ (Str.ofString "params" = Str.ofString "tests") := by decide +kernel
theorem k_pp : ¬ (Str.ofString "params" = Str.ofString "plus") := by decide +kernel
theorem k_gt' : ¬ (Str.ofString "gives" = Str.ofString "tests") := by decide +kernel
theorem k_gp : ¬ (Str.ofString "gives" = Str.ofString "plus") := by decide +kernel
theorem k_tp : ¬ (Str.ofString "tests" = Str.ofString "plus") := by decide +kernel
theorem k_pt' : ¬ (Str.ofString "plus" = Str.ofString "tests") := by decide +kernel
section
variable {ps : List (Str × Str)} {gv : Str} {t p z : Int}
theorem wld_params : valA (wldL ps gv t p) (.inr "params") = some (.dat (.list (ps.map nsD))) := by simp [valA, wldL]
theorem wld_gives : valA (wldL ps gv t p) (.inr "gives") = some (.dat (.str gv)) := by simp [valA, wldL, k_pg]
theorem wld_tests : valA (wldL ps gv t p) (.inr "tests") = some (.dat (.int t)) := by simp [valA, wldL, k_pt, k_gt']
theorem wld_plus : valA (wldL ps gv t p) (.inr "plus") = some (.dat (.int p)) := by simp [valA, wldL, k_pp, k_gp, k_tp]
theorem wld_tests_put : putA (wldL ps gv t p) (.inr "tests") (.dat (.int z)) = wldL ps gv z p := by simp [putA, wldL, k_pt, k_gt', k_pt']
theorem wld_plus_put : putA (wldL ps gv t p) (.inr "plus") (.dat (.int z)) = wldL ps gv t z := by simp [putA, wldL, k_pp, k_gp, k_tp]
theorem wld_len : (wldL ps gv t p).length ≤ 1000000 := by show 4 ≤ 1000000; decide
theorem wld_nodup : ([.inr "params", .inr "gives", .inr "tests", .inr "plus"] : List Key).Nodup := by decide +kernel
end
/-- the box of numbers and what bodies may use -/
structure Ctx (d g q : Addr) (ps : List (Str × Str)) (gv : Str) (S : Sto) : Prop where
  box : Box d g S
  nd : q ≠ d
  ng : q ≠ g
  wd : ∃ t p : Int, S q = some (.dct (wldL ps gv t p))
def Only3 (d g q : Addr) (S S' : Sto) : Prop := ∀ a, a ≠ d → a ≠ g → a ≠ q → S' a = S a
theorem Only3.refl {d g q : Addr} (S : Sto) : Only3 d g q S S := fun _ _ _ _ => rfl
theorem Only3.trans {d g q : Addr} {S S1 S2 : Sto} (x : Only3 d g q S S1) (y : Only3 d g q S1 S2) : Only3 d g q S S2 := fun a h1 h2 h3 => (y a h1 h2 h3).trans (x a h1 h2 h3)
theorem Only2.to3 {d g q : Addr} {S S1 : Sto} (x : Only2 d g S S1) : Only3 d g q S S1 := fun a h1 h2 _ => x a h1 h2
theorem Only3.add2 {d g q : Addr} {S S1 S2 : Sto} (x : Only3 d g q S S1) (y : Only2 d g S1 S2) : Only3 d g q S S2 := x.trans y.to3
theorem Only3.setQ {d g q : Addr} {S S1 : Sto} {o : AO} (x : Only3 d g q S S1) : Only3 d g q S (S1.set q o) := fun a h1 h2 h3 => (set_ne h3).trans (x a h1 h2 h3)
theorem Ctx.on {d g q : Addr} {ps : List (Str × Str)} {gv : Str} {S S1 : Sto} (c : Ctx d g q ps gv S) (b : Box d g S1) (o : Only2 d g S S1) : Ctx d g q ps gv S1 :=
  ⟨b, c.nd, c.ng, by rw [o q c.nd c.ng]; exact c.wd⟩
theorem Ctx.put {d g q : Addr} {ps : List (Str × Str)} {gv : Str} {S : Sto} (c : Ctx d g q ps gv S) (t p : Int) : Ctx d g q ps gv (S.set q (.dct (wldL ps gv t p))) :=
  ⟨c.box.set_ne' c.nd.symm c.ng.symm, c.nd, c.ng, t, p, set_same⟩
structure WdOk (ps : List (Str × Str)) (gv : Str) : Prop where
  len : ps.length ≤ 3
  nd : (ps.map (·.1)).Nodup
  ok : ∀ p ∈ ps, NameOk p.1 ∧ p.1 ∉ badWords ∧ sortOk p.2
  gv : sortOk gv
def sortD : Option Str → PyData
  | none => .none
  | some s => .str s
/-- a name that may be spoken of with this sort -/
def Spoken (ps : List (Str × Str)) (inner : Option Str) (n s : Str) : Prop := (n, s) ∈ ps ∨ (n = "inner" ∧ inner = some s)
inductive TestOk (ps : List (Str × Str)) (inner : Option Str) : Nat → PyData → Prop
  | lacks {k : Nat} (s : Str) (h : inner = some s) : TestOk ps inner k (.tuple [.str "lacks"])
  | most {k : Nat} (n : Str) (i : Int) (h : Spoken ps inner n "number") (h1 : -1000 ≤ i) (h2 : i ≤ 1000) : TestOk ps inner k (.tuple [.str "most", .str n, .int i])
  | is {k : Nat} (n w : Str) (h : Spoken ps inner n "word") (h1 : NameOk w) : TestOk ps inner k (.tuple [.str "is", .str n, .str w])
  | not {k : Nat} (a : PyData) (h : TestOk ps inner k a) : TestOk ps inner (k + 1) (.tuple [.str "not", a])
  | both {k : Nat} (a b : PyData) (h1 : TestOk ps inner k a) (h2 : TestOk ps inner k b) : TestOk ps inner (k + 1) (.tuple [.str "both", a, b])
  | either {k : Nat} (a b : PyData) (h1 : TestOk ps inner k a) (h2 : TestOk ps inner k b) : TestOk ps inner (k + 1) (.tuple [.str "either", a, b])
theorem TestOk.up {ps : List (Str × Str)} {inner : Option Str} {k : Nat} {t : PyData} (h : TestOk ps inner k t) : ∀ {m : Nat}, k ≤ m → TestOk ps inner m t := by
  induction h with
  | lacks s h => intro m _; exact .lacks s h
  | most n i h h1 h2 => intro m _; exact .most n i h h1 h2
  | is n w h h1 => intro m _; exact .is n w h h1
  | not a h ih => intro m hm; obtain ⟨m, rfl⟩ : ∃ j, m = j + 1 := ⟨m - 1, by omega⟩; exact .not a (ih (by omega))
  | both a b h1 h2 i1 i2 => intro m hm; obtain ⟨m, rfl⟩ : ∃ j, m = j + 1 := ⟨m - 1, by omega⟩; exact .both a b (i1 (by omega)) (i2 (by omega))
  | either a b h1 h2 i1 i2 => intro m hm; obtain ⟨m, rfl⟩ : ∃ j, m = j + 1 := ⟨m - 1, by omega⟩; exact .either a b (i1 (by omega)) (i2 (by omega))
/-- an expression without a test -/
inductive LeafOk (ps : List (Str × Str)) (sort : Str) (inner : Option Str) (sent : Bool) : PyData → Prop
  | none (h : sent = false) : LeafOk ps sort inner sent (.tuple [.str "none"])
  | fail (w : Str) (h : sent = false) (h1 : NameOk w) : LeafOk ps sort inner sent (.tuple [.str "fail", .str w])
  | plus (n : Str) (i : Int) (h : Spoken ps inner n sort) (hs : sort = "number") (h1 : -1000 ≤ i) (h2 : i ≤ 1000) : LeafOk ps sort inner sent (.tuple [.str "plus", .str n, .int i])
  | param (n : Str) (h : Spoken ps inner n sort) : LeafOk ps sort inner sent (.tuple [.str "param", .str n])
  | number (i : Int) (hs : sort = "number") (h1 : -1000 ≤ i) (h2 : i ≤ 1000) : LeafOk ps sort inner sent (.tuple [.str "number", .int i])
  | word (w : Str) (hs : sort = "word") (h1 : NameOk w) : LeafOk ps sort inner sent (.tuple [.str "word", .str w])
inductive ExprOk (ps : List (Str × Str)) (sort : Str) (inner : Option Str) (sent : Bool) : Nat → PyData → Prop
  | leaf {k : Nat} (a : PyData) (h : LeafOk ps sort inner sent a) : ExprOk ps sort inner sent k a
  | ite {k : Nat} (t a b : PyData) (h : TestOk ps inner 3 t) (h1 : ExprOk ps sort inner sent k a) (h2 : ExprOk ps sort inner sent k b) : ExprOk ps sort inner sent (k + 1) (.tuple [.str "if", t, a, b])
theorem ExprOk.up {ps : List (Str × Str)} {sort : Str} {inner : Option Str} {sent : Bool} {k : Nat} {t : PyData} (h : ExprOk ps sort inner sent k t) : ∀ {m : Nat}, k ≤ m → ExprOk ps sort inner sent m t := by
  induction h with
  | leaf a h => intro m _; exact .leaf a h
  | ite t a b h h1 h2 i1 i2 => intro m hm; obtain ⟨m, rfl⟩ : ∃ j, m = j + 1 := ⟨m - 1, by omega⟩; exact .ite t a b h (i1 (by omega)) (i2 (by omega))
/-- what is sent: a name, its sort, an expression -/
structure Snt where
  n : Str
  s : Str
  e : PyData
def Snt.d (s : Snt) : PyData := .tuple [.str s.n, s.e]
structure SendsOk (ps : List (Str × Str)) (k : Nat) (l : List Snt) : Prop where
  nd : (l.map (·.n)).Nodup
  mem : ∀ x ∈ l, (x.n, x.s) ∈ ps ∧ ExprOk ps x.s none true k x.e
inductive AskOk (ps : List (Str × Str)) (gv : Str) (k : Nat) : PyData → Prop
  | mk (l : List Snt) (t f : PyData) (h1 : SendsOk ps k l) (h2 : ExprOk ps gv (some gv) false k t) (h3 : f = .none ∨ LeafOk ps gv none false f) : AskOk ps gv k (.tuple [.str "ask", .tuple (l.map Snt.d), t, f])
inductive WrapOk (ps : List (Str × Str)) (gv : Str) : Nat → PyData → Prop
  | leaf {k : Nat} (a : PyData) (h : LeafOk ps gv none false a) : WrapOk ps gv k a
  | ask {k : Nat} (a : PyData) (h : AskOk ps gv 2 a) : WrapOk ps gv k a
  | ite {k : Nat} (t a b : PyData) (h : TestOk ps none 3 t) (h1 : WrapOk ps gv k a) (h2 : WrapOk ps gv k b) : WrapOk ps gv (k + 1) (.tuple [.str "if", t, a, b])
theorem WrapOk.up {ps : List (Str × Str)} {gv : Str} {k : Nat} {t : PyData} (h : WrapOk ps gv k t) : ∀ {m : Nat}, k ≤ m → WrapOk ps gv m t := by
  induction h with
  | leaf a h => intro m _; exact .leaf a h
  | ask a h => intro m _; exact .ask a h
  | ite t a b h h1 h2 i1 i2 => intro m hm; obtain ⟨m, rfl⟩ : ∃ j, m = j + 1 := ⟨m - 1, by omega⟩; exact .ite t a b h (i1 (by omega)) (i2 (by omega))
/-- a drawn body, of a wrapper or of a plain part -/
def BodyOk (ps : List (Str × Str)) (gv : Str) (outer : Bool) (b : PyData) : Prop := if outer = true then WrapOk ps gv 3 b else ExprOk ps gv none false 3 b
/-! ## what the drawing helpers do -/
def spNumber : List AV → Sto → Po → Prop := fun as S P => ∃ d g, as = [.own d] ∧ Box d g S ∧ ∀ (r : Int) S', -1000 ≤ r → r ≤ 1000 → Box d g S' → Only2 d g S S' → P (.dat (.int r)) S'
def Pm.pr (p : Pm) : Str × Str := (p.n, p.s)
def spWorld : List AV → Sto → Po → Prop := fun as S P => ∃ name kind ps qs outs, as = [.dat (hookD name kind ps qs outs)] ∧ HookOk kind ps qs outs ∧ ∀ q, S q = none → P (.own q) (S.set q (.dct (wldL ((ps ++ qs).map Pm.pr) outs 10 4)))
def spCanTest : List AV → Sto → Po → Prop := fun as S P => ∃ d g q ps gv inner, as = [.own q, .dat (sortD inner)] ∧ WdOk ps gv ∧ Ctx d g q ps gv S ∧ ∀ b : Bool, (b = true → ps ≠ [] ∨ inner ≠ none) → P (.dat (.bool b)) S
def spTest (m : Nat) : List AV → Sto → Po → Prop := fun as S P => ∃ d g q ps gv inner, ∃ k : Nat, as = [.own d, .own q, .dat (sortD inner), .dat (.int k)] ∧ k < m ∧ WdOk ps gv ∧ (∀ s, inner = some s → sortOk s) ∧ (ps ≠ [] ∨ inner ≠ none) ∧ Ctx d g q ps gv S ∧
  ∀ t S', TestOk ps inner k t → Ctx d g q ps gv S' → Only3 d g q S S' → P (.dat t) S'
def spLeaf : List AV → Sto → Po → Prop := fun as S P => ∃ d g q ps gv sort inner sent, as = [.own d, .own q, .dat (.str sort), .dat (sortD inner), .dat (.bool sent)] ∧ WdOk ps gv ∧ sortOk sort ∧ (∀ s, inner = some s → sortOk s) ∧ Ctx d g q ps gv S ∧
  ∀ t S', LeafOk ps sort inner sent t → Ctx d g q ps gv S' → Only3 d g q S S' → P (.dat t) S'
def spExpr (m : Nat) : List AV → Sto → Po → Prop := fun as S P => ∃ d g q ps gv sort inner sent, ∃ k : Nat, as = [.own d, .own q, .dat (.str sort), .dat (sortD inner), .dat (.bool sent), .dat (.int k)] ∧ k < m ∧ WdOk ps gv ∧ sortOk sort ∧ (∀ s, inner = some s → sortOk s) ∧ Ctx d g q ps gv S ∧
  ∀ t S', ExprOk ps sort inner sent k t → Ctx d g q ps gv S' → Only3 d g q S S' → P (.dat t) S'
def spAsk : List AV → Sto → Po → Prop := fun as S P => ∃ d g q ps gv, ∃ k : Nat, as = [.own d, .own q, .dat (.int k)] ∧ k ≤ 1 ∧ WdOk ps gv ∧ Ctx d g q ps gv S ∧
  ∀ t S', AskOk ps gv 2 t → Ctx d g q ps gv S' → Only3 d g q S S' → P (.dat t) S'
def spWrap (m : Nat) : List AV → Sto → Po → Prop := fun as S P => ∃ d g q ps gv, ∃ k : Nat, as = [.own d, .own q, .dat (.int k)] ∧ k < m ∧ WdOk ps gv ∧ Ctx d g q ps gv S ∧
  ∀ t S', WrapOk ps gv k t → Ctx d g q ps gv S' → Only3 d g q S S' → P (.dat t) S'
def spBody : List AV → Sto → Po → Prop := fun as S P => ∃ d g q ps gv outer, as = [.own d, .own q, .dat (.bool outer)] ∧ WdOk ps gv ∧ Ctx d g q ps gv S ∧
  ∀ t S', BodyOk ps gv outer t → Ctx d g q ps gv S' → Only3 d g q S S' → P (.dat t) S'
def spAnyHook : List AV → Sto → Po → Prop := fun as S P => ∃ d g, as = [.own d] ∧ Box d g S ∧ ∀ kind ps qs outs S', kindOk kind → HookOk kind ps qs outs → Box d g S' → Only2 d g S S' → P (.dat (hookD "shade" kind ps qs outs)) S'
def spokenL (ps : List (Str × Str)) : Option Str → List PyData
  | none => ps.map nsD
  | some s => ps.map nsD ++ [nsD ("inner", s), nsD ("inner", s)]
theorem spokenL_eq (ps : List (Str × Str)) (inner : Option Str) : ps.map nsD ++ (List.replicate (2 * (if (!isNone (sortD inner)) = true then (1 : Int) else 0)).toNat [PyData.tuple [.str "inner", sortD inner]]).flatten = spokenL ps inner := by
  cases inner with
  | none => exact List.append_nil _
  | some s => rfl
theorem spokenL_len {ps : List (Str × Str)} {inner : Option Str} (h : ps ≠ [] ∨ inner ≠ none) : 0 < (spokenL ps inner).length := by
  cases inner with
  | none =>
    show 0 < (ps.map nsD).length
    rw [List.length_map]
    rcases h with h | h
    · exact List.length_pos_iff.mpr h
    · exact absurd rfl h
  | some s => simp [spokenL]
theorem spokenL_mem {ps : List (Str × Str)} {gv : Str} {inner : Option Str} (hw : WdOk ps gv) (hi : ∀ s, inner = some s → sortOk s) {x : PyData} (h : x ∈ spokenL ps inner) : ∃ n s, x = nsD (n, s) ∧ Spoken ps inner n s ∧ sortOk s := by
  cases inner with
  | none =>
    obtain ⟨⟨n, s⟩, hp, rfl⟩ := List.mem_map.mp h
    exact ⟨n, s, rfl, .inl hp, (hw.ok _ hp).2.2⟩
  | some s0 =>
    rcases List.mem_append.mp h with h | h
    · obtain ⟨⟨n, s⟩, hp, rfl⟩ := List.mem_map.mp h
      exact ⟨n, s, rfl, .inl hp, (hw.ok _ hp).2.2⟩
    · have e : x = nsD ("inner", s0) := by simpa using h
      exact ⟨_, s0, e, .inr ⟨rfl, rfl⟩, hi s0 rfl⟩
def someL (ps : List (Str × Str)) (inner : Option Str) (sort : Str) : List Str := (ps.filter (fun p : Str × Str => decide (p.2 = sort))).map (·.1) ++ if decide (inner = some sort) = true then [(Str.ofString "inner"), (Str.ofString "inner")] else []
theorem eqv_sort (inner : Option Str) (sort : Str) : PyData.eqv (sortD inner) (.str sort) = decide (inner = some sort) := by
  cases inner with
  | none => simp [sortD, PyData.eqv]
  | some s =>
    show (s == sort) = _
    by_cases h : s = sort <;> simp [h]
theorem someL_eq (ps : List (Str × Str)) (inner : Option Str) (sort : Str) : (ps.filter (fun p : Str × Str => decide (p.2 = sort))).map (fun p => PyData.str p.1) ++ (List.replicate (2 * (if decide (inner = some sort) = true then (1 : Int) else 0)).toNat [PyData.str "inner"]).flatten = (someL ps inner sort).map PyData.str := by
  unfold someL
  rw [List.map_append, List.map_map]
  by_cases h : decide (inner = some sort) = true
  · rw [if_pos h, if_pos h]; rfl
  · rw [if_neg h, if_neg h]; rfl
theorem someL_len (ps : List (Str × Str)) (inner : Option Str) (sort : Str) : (someL ps inner sort).length ≤ ps.length + 2 := by
  unfold someL
  have := List.length_filter_le (fun p : Str × Str => decide (p.2 = sort)) ps
  rw [List.length_append, List.length_map]
  split <;> simp <;> omega
theorem someL_mem {ps : List (Str × Str)} {inner : Option Str} {sort n : Str} (h : n ∈ someL ps inner sort) : Spoken ps inner n sort := by
  unfold someL at h
  rcases List.mem_append.mp h with h | h
  · obtain ⟨⟨a, b⟩, hp, rfl⟩ := List.mem_map.mp h
    obtain ⟨h1, h2⟩ := List.mem_filter.mp hp
    have e : b = sort := of_decide_eq_true h2
    subst e
    exact .inl h1
  · by_cases e : decide (inner = some sort) = true
    · rw [if_pos e] at h
      exact .inr ⟨by simpa using h, of_decide_eq_true e⟩
    · rw [if_neg e] at h
      cases h
theorem ne_nil_of {l : List Str} (h : (!PyData.eqv (.list (l.map PyData.str)) (.list [])) = true) : 0 < l.length := by
  cases l with
  | nil => exact absurd h (by simp [PyData.eqv, PyData.eqvAll])
  | cons a l => simp
theorem wt_cut {K : PySem.W.Frag} {tt : TT} {δ : Dl} {S : Sto} {P : Bool → Sto → Prop} (M : Bool → Sto → Prop) (h1 : WT K tt δ S M) (h2 : ∀ b S', M b S' → P b S') : WT K tt δ S P := fun σ H Q rs s k =>
  h1 σ H Q rs s fun b H' S' g m => k b H' S' g (h2 b S' m)
/-! ## data that can be compared -/
theorem lower_ok {x : Str} (h : ∀ c ∈ cs x, lower c) : PyData.strOk x = true := by
  unfold PyData.strOk
  rw [Array.all_eq_true]
  intro i hi
  have := h x.cps[i] (by unfold cs; exact List.getElem_mem (by simpa using hi))
  unfold lower at this
  exact decide_eq_true (by omega)
theorem NameOk.sok {x : Str} (h : NameOk x) : PyData.strOk x = true := lower_ok h.2.2
theorem sortOk.sok {x : Str} (h : sortOk x) : PyData.strOk x = true := by rcases h with rfl | rfl <;> decide +kernel
theorem someL_ok {ps : List (Str × Str)} {inner : Option Str} {sort : Str} {gv : Str} (hw : WdOk ps gv) : ∀ n ∈ someL ps inner sort, PyData.strOk n = true := by
  intro n h
  rcases someL_mem h with h | h
  · exact lower_ok (hw.ok _ h).1.2.2
  · rw [h.1]; decide +kernel
theorem sh_none : SeqAt.shaped .none = true := by decide
theorem sh_str {x : Str} (h : PyData.strOk x = true) : SeqAt.shaped (.str x) = true := by simp [SeqAt.shaped, PyData.canLay0, PyData.depth, h]
theorem sh_sort {inner : Option Str} (h : ∀ s, inner = some s → sortOk s) : SeqAt.shaped (sortD inner) = true := by
  cases inner with
  | none => exact sh_none
  | some s => exact sh_str (h s rfl).sok
theorem lay_list {ds : List PyData} {n : Nat} (h : ∀ x ∈ ds, x.canLay0 = true ∧ x.depth ≤ n) : PyData.canLayAll0 ds = true ∧ PyData.depthAll ds ≤ n := by
  induction ds with
  | nil => exact ⟨by simp [PyData.canLayAll0], by simp [PyData.depthAll]⟩
  | cons d ds ih =>
    obtain ⟨h1, h2⟩ := h d (by simp)
    obtain ⟨i1, i2⟩ := ih fun x hx => h x (List.mem_cons_of_mem _ hx)
    exact ⟨by simp [PyData.canLayAll0, h1, i1], by simp only [PyData.depthAll]; omega⟩
theorem sh_list {ds : List PyData} (h : ∀ x ∈ ds, x.canLay0 = true ∧ x.depth ≤ 60) : SeqAt.shaped (.list ds) = true := by
  obtain ⟨h1, h2⟩ := lay_list h
  simp only [SeqAt.shaped, PyData.canLay0, h1, PyData.depth, Bool.true_and]
  exact decide_eq_true (by omega)
theorem sh_prs {ps : List (Str × Str)} {gv : Str} (h : WdOk ps gv) : SeqAt.shaped (.list (ps.map nsD)) = true := sh_list fun x hx => by
  obtain ⟨p, hp, rfl⟩ := List.mem_map.mp hx
  obtain ⟨h1, _, h3⟩ := h.ok p hp
  simp [nsD, PyData.canLay0, PyData.canLayAll0, PyData.depth, PyData.depthAll, h1.sok, h3.sok]
theorem sh_strs {l : List Str} (h : ∀ x ∈ l, PyData.strOk x = true) : SeqAt.shaped (.list (l.map PyData.str)) = true := sh_list fun x hx => by
  obtain ⟨p, hp, rfl⟩ := List.mem_map.mp hx
  simp [PyData.canLay0, PyData.depth, h p hp]
end Ov
namespace Ov
open PySem PySem.Spec PyProof.Rows L2
/-! ## d.get(k, x): of a dict made here, and of a written one by its name -/
theorem we_dget2 {K : PySem.W.Frag} {td ty tx : TE} {δ : Dl} {S : Sto} {P : Po} (h : WE K td δ S fun a S1 => ∃ q, a = .own q ∧ (∃ kvs, S1 q = some (.dct kvs)) ∧ WE K ty δ S1 fun b S2 => WE K tx δ S2 fun c S3 => ∃ kvs k, b = keyA k ∧ S3 q = some (.dct kvs) ∧ P ((valA kvs k).getD c) S3 ∧ (valA kvs k = none → (kvs.any fun kv => decide (kv.1 = k)) = false)) : WE K (tDGet2 td ty tx) δ S P := fun σ H Q rs s kk =>
  h σ H _ rs s fun x H1 a S1 g1 r1 ⟨q, e0, ⟨kvs0, e00⟩, w⟩ => by
    subst e0
    cases r1
    obtain ⟨ks0, z1, z2⟩ := g1.rs q _ e00
    refine ⟨q, rfl, .inl ⟨ks0, Rd.of z1⟩, ?_⟩
    refine w σ H1 _ g1.rs (s.go g1) fun y H2 b S2 g2 r2 w2 => w2 σ H2 _ g2.rs ((s.go g1).go g2) fun z H3 c S3 g3 r3 ⟨as, k, e1, e3, p, hn⟩ => ?_
    subst e1
    obtain ⟨kvs, q1, q2⟩ := g3.rs q _ e3
    have := ra_key r2
    subst this
    have g := (g1.trans g2).trans g3
    cases e : valA as k with
    | some c' =>
      obtain ⟨v, v1, v2⟩ := q2.val e
      rw [e] at p
      exact ⟨some v, by rw [← v1]; exact DGet.k q1, kk v H3 c' S3 g v2 p⟩
    | none =>
      rw [e] at p
      have hv : valV kvs k = none := by
        have ha := hn e
        rw [← q2.any] at ha
        unfold valV
        cases e5 : kvs.find? (fun kv => decide (kv.1 = k)) with
        | none => rfl
        | some kv =>
          have h1 := List.find?_some e5
          have h2 := List.mem_of_find?_eq_some e5
          rw [List.any_eq_false] at ha
          exact absurd h1 (ha _ h2)
      exact ⟨none, by rw [← hv]; exact DGet.k q1, kk z H3 c S3 g r3 p⟩
/-- what a written dict has for a text -/
structure KD (K : PySem.W.Frag) (w : World) (a : Addr) (tab : Str → Option V) (ks : List Str) : Prop where
  ex : ∃ es n, K.lookup a = some ⟨.type "dict", none, .dict es n, #[]⟩ ∧ PySem.W.KeysLit w.params es.toList ∧ (a == sysModules) = false
  at_ : ∀ k ∈ ks, (∃ v u, tab k = some v ∧ PySem.W.nsIn K a k = some (some u) ∧ RelV v u) ∨ (tab k = none ∧ PySem.W.nsIn K a k = some none)
def tGGet (tab : Str → Option V) (ks : List Str) (ty tx : TE) : TE := fun σ H Q => ty σ H fun y H2 => tx σ H2 fun z H3 => ∃ k, y = .str k ∧ k ∈ ks ∧ Q ((tab k).getD z) H3
section
variable {X : Cx} {x : Str} {e f : Expr} {p apos cpos : Pos} {ty tx : TE} {a : Addr} {tab : Str → Option V} {ks : List Str}
theorem pe_gget (hg : Gl X x) (hm : X.mg x = some (.ref a)) (kd : KD X.K X.w a tab ks) (he : PE X e ty) (hf : PE X f tx) (m : M2 X (.Name x p) "get" apos e f cpos) (hd : (x == ("__debug__" : Str)) = false := by decide) : PE X (.Call (.Attribute (.Name x p) "get" apos) [e, f] [] cpos) (tGGet tab ks ty tx) := by
  obtain ⟨es, n, hl, hk, low⟩ := kd.ex
  refine ⟨fun pins s σ H Q I h => ?_⟩
  refine wpAny_Call_method m.base m.few m.line PySem.F.plainAttrs_dict PySem.F.slot_dict_get PySem.F.type_dict_get (ld_glob I hg hm ?_ hd)
  have hm0 := PySem.W.mapOf_K (prog := X.prog) (w := X.w) I.kIn hl hk
  refine ⟨hm0.typeIs, fun b q => ?_, ?_⟩
  · cases q
    exact ⟨_, I.kIn _ _ hl, rfl⟩
  rw [m.trees]
  refine Calls.callWith_builtin rfl (Calls.evalArgs_plain (Calls.spliced_cons (thn (he.run pins s σ H _ I h) fun iv s2 ⟨y, H2, I2, ry, q2⟩ =>
    Calls.spliced_cons (thn (hf.run pins s2 σ H2 _ I2 q2) fun fv s3 ⟨z, H3, I3, rz, k, ek, hks, q3⟩ => Calls.spliced_nil ?_))))
  subst ek
  obtain ⟨t, rfl⟩ := (show ∃ t, iv = Value.str k t from ry)
  have hm3 := PySem.W.mapOf_K (prog := X.prog) (w := X.w) I3.kIn hl hk
  refine call_meetsIn PySem.F.slot_dict_get hm3.typeIs PySem.F.entry_dict_get (PySem.F.args_dict_get_3 _ _ _) (meets_dict_get_default (strKind X.prog X.w) a (strKind_is X.prog X.w k t) low fv) ⟨_, hm3, ?_⟩
  rcases kd.at_ k hks with ⟨v, u, e1, e2, r⟩ | ⟨e1, e2⟩
  · rw [e1] at q3
    rw [PySem.W.find_K hl e2]
    exact ⟨v, H3, I3.tok _, r, q3⟩
  · rw [e1] at q3
    rw [PySem.W.find_K hl e2]
    exact ⟨z, H3, I3.tok _, rz, q3⟩
end
theorem we_gget {K : PySem.W.Frag} {tab : Str → Option V} {ks : List Str} {ty tx : TE} {δ : Dl} {S : Sto} {P : Po} {ft : Str → Option PyData} (hft : ∀ k ∈ ks, ∀ H, (∃ v d, tab k = some v ∧ ft k = some d ∧ Dq K H v d) ∨ (tab k = none ∧ ft k = none))
    (h : WE K ty δ S fun b S2 => WE K tx δ S2 fun c S3 => ∃ k d, b = .dat (.str k) ∧ c = .dat d ∧ k ∈ ks ∧ P (.dat ((ft k).getD d)) S3) : WE K (tGGet tab ks ty tx) δ S P := fun σ H Q rs s kk =>
  h σ H _ rs s fun y H2 b S2 g2 r2 w2 => w2 σ H2 _ g2.rs (s.go g2) fun z H3 c S3 g3 r3 ⟨k, d, e1, e2, hk, p⟩ => by
    subst e1 e2
    cases r2
    have g := g2.trans g3
    refine ⟨k, rfl, hk, ?_⟩
    rcases hft k hk (msk S3 H3) with ⟨v, d', q1, q2, q3⟩ | ⟨q1, q2⟩
    · rw [q2] at p
      rw [q1]
      exact kk v H3 (.dat d') S3 g q3 p
    · rw [q2] at p
      rw [q1]
      exact kk z H3 _ S3 g r3 p
/-! ## repr of numbers, too -/
def rReprA (K : PySem.W.Frag) : List V → Hp → VK → Prop := fun xs H Q => rReprD K xs H Q ∨ ∃ i, xs = [.int i] ∧ i.natAbs.log2 < 1920 ∧ Q (.str (toString i)) H
theorem call_reprA {X : Cx} (K : PySem.W.Frag) (hG : X.A.guards = some []) (hu : X.A.units + 64 < cLine) (h : X.K = K := by rfl) : CallR X (.builtin "repr") (rReprA K) := h ▸ CallR.or (call_reprD hG hu) SkE.call_repr_int
section
variable {K : PySem.W.Frag} {S : Sto} {P : Po}
theorem wc_reprD {a : AV} {d : PyData} (n : Nw S a d) (hc : (∃ ds, d = .list ds) ∨ ∃ ds, d = .tuple ds) (h1 : d.showable = true) (h2 : d.hasDict = false) (h3 : d.depth ≤ 60) (h4 : d.shown.length ≤ 10000000) (p : P (.dat (.str d.shown)) S) : WC K (rReprA K) [a] S P := fun xs H Q rs ra k =>
  .inl (wc_repr n hc h1 h2 h3 h4 p xs H Q rs ra k)
theorem wc_reprI {i : Int} (h : i.natAbs.log2 < 1920) (p : P (.dat (.str (toString i))) S) : WC K (rReprA K) [.dat (.int i)] S P := fun xs H Q rs ra k => by
  cases ra with
  | cons r1 r2 =>
    cases r2
    cases r1
    exact .inr ⟨i, rfl, h, fin_d rs k (Dq.str _) p⟩
end
end Ov
namespace Ov
open PySem PySem.Spec PyProof.Rows L2
/-! ## trees as they are made: what is inside, how many -/
def plainHeads : List Str := ["if", "not", "both", "either", "most", "is", "lacks", "number", "word", "none", "param", "plus", "fail"].map Str.ofString
def slots (h : Str) : Nat := if h = "if" then 3 else if h = "not" then 1 else if h = "both" then 2 else if h = "either" then 2 else 0
def sndD : PyData → PyData
  | .tuple [_, b] => b
  | d => d
def sendK : Nat → List PyData → List (PyData × PyData)
  | _, [] => []
  | i, p :: l => (.tuple [.int 1, .int i, .int 1], sndD p) :: sendK (i + 1) l
def askK : List PyData → List (PyData × PyData)
  | [.tuple l, t, f] => sendK 0 l ++ [(.tuple [.int 2], t)] ++ (if isNone f = true then [] else [(.tuple [.int 3], f)])
  | _ => []
def brK (n : Nat) (as : List PyData) : List (PyData × PyData) := (List.range n).map fun (i : Nat) => (.tuple [.int ((i : Int) + 1)], as.getD i .none)
def kidsD : PyData → List (PyData × PyData)
  | .tuple (.str h :: as) => if h = "ask" then askK as else brK (slots h) as
  | _ => []
theorem kids_eq (h : Str) (as : List PyData) : kidsD (.tuple (.str h :: as)) = if h = "ask" then askK as else brK (slots h) as := by simp only [kidsD]
def kpD (p : PyData × PyData) : PyData := .tuple [p.1, p.2]
def Atom (a : PyData) : Prop := (∃ x, a = .str x ∧ NameOk x) ∨ ∃ i, a = .int i ∧ -1000000 ≤ i ∧ i ≤ 1000000
inductive Tr : Nat → PyData → Prop
  | node {k : Nat} (h : Str) (as : List PyData) (hh : h ∈ plainHeads) (hl : as.length ≤ 3) (hs : slots h ≤ as.length) (ha : ∀ a ∈ as.drop (slots h), Atom a) (hk : ∀ a ∈ as.take (slots h), Tr k a) : Tr (k + 1) (.tuple (.str h :: as))
  | ask {k : Nat} (l : List Snt) (t f : PyData) (hl : l.length ≤ 3) (hn : ∀ x ∈ l, NameOk x.n) (he : ∀ x ∈ l, Tr k x.e) (ht : Tr k t) (hf : f ≠ .none → Tr k f) : Tr (k + 1) (.tuple [.str "ask", .tuple (l.map Snt.d), t, f])
theorem heads_ok : ∀ h ∈ plainHeads, NameOk h ∧ h ≠ "ask" := by decide +kernel
theorem Tr.tup {k : Nat} {d : PyData} (h : Tr k d) : isNone d = false := by cases h <;> rfl
theorem sendK_at (l : List Snt) : ∀ i, sendK i (l.map Snt.d) = (l.zipIdx i).map fun x => (.tuple [.int 1, .int x.2, .int 1], x.1.e) := by
  induction l with
  | nil => intro i; rfl
  | cons a l ih => intro i; simp [sendK, ih, Snt.d, sndD, List.zipIdx_cons]
theorem kids_ask (l : List Snt) (t f : PyData) : kidsD (.tuple [.str "ask", .tuple (l.map Snt.d), t, f]) = (l.zipIdx.map fun x => (PyData.tuple [.int 1, .int x.2, .int 1], x.1.e)) ++ [(.tuple [.int 2], t)] ++ (if isNone f = true then [] else [(.tuple [.int 3], f)]) := by
  rw [kids_eq, if_pos rfl]
  simp only [askK]
  rw [sendK_at]
theorem kids_node {h : Str} (hh : h ∈ plainHeads) (as : List PyData) : kidsD (.tuple (.str h :: as)) = brK (slots h) as := by
  rw [kids_eq, if_neg (heads_ok h hh).2]
theorem brK_snd (n : Nat) (as : List PyData) (hn : n ≤ as.length) : (brK n as).map (·.2) = as.take n := by
  unfold brK
  rw [List.map_map]
  apply List.ext_getElem
  · simp; omega
  · intro i h1 h2
    simp at h1 h2
    simp [List.getD_eq_getElem?_getD, show i < as.length by omega]
theorem kids_tr {k : Nat} {d : PyData} (h : Tr (k + 1) d) : ∀ p ∈ kidsD d, Tr k p.2 := by
  cases h with
  | node h as hh hl hs ha hk =>
    intro p hp
    rw [kids_node hh] at hp
    refine hk _ ?_
    rw [← brK_snd _ _ hs]
    exact List.mem_map.mpr ⟨p, hp, rfl⟩
  | ask l t f hl hn he ht hf =>
    intro p hp
    rw [kids_ask] at hp
    rcases List.mem_append.mp hp with hp | hp
    · rcases List.mem_append.mp hp with hp | hp
      · obtain ⟨⟨x, i⟩, hx, rfl⟩ := List.mem_map.mp hp
        exact he x (List.mem_of_getElem? (List.mem_zipIdx_iff_getElem?.mp hx))
      · rw [List.mem_singleton.mp hp]; exact ht
    · by_cases e : f = .none
      · subst e
        cases hp
      · rw [(hf e).tup, if_neg (by decide)] at hp
        rw [List.mem_singleton.mp hp]; exact hf e
theorem kids_len {k : Nat} {d : PyData} (h : Tr k d) : (kidsD d).length ≤ 5 := by
  cases h with
  | node h as hh hl hs ha hk => rw [kids_node hh]; simp [brK]; omega
  | ask l t f hl hn he ht hf =>
    rw [kids_ask]
    simp only [List.length_append, List.length_map, List.length_zipIdx, List.length_cons, List.length_nil]
    split <;> simp <;> omega
def sizeF : Nat → PyData → Nat
  | 0, _ => 0
  | n + 1, d => 1 + ((kidsD d).map fun p => sizeF n p.2).sum
theorem sum_congr {α : Type} {f g : α → Nat} : ∀ {l : List α}, (∀ x ∈ l, f x = g x) → (l.map f).sum = (l.map g).sum := fun h => by
  rw [List.map_congr_left h]
theorem sizeF_up : ∀ {k m : Nat} {d : PyData}, Tr k d → k ≤ m → sizeF m d = sizeF k d
  | 0, _, _, h, _ => nomatch h
  | k + 1, 0, _, _, hm => absurd hm (by omega)
  | k + 1, m + 1, d, h, hm => by
    show 1 + _ = 1 + _
    rw [sum_congr fun p hp => sizeF_up (kids_tr h p hp) (by omega)]
def size (d : PyData) : Nat := sizeF 12 d
theorem size_eq {k : Nat} {d : PyData} (h : Tr k d) (hk : k ≤ 12) : size d = 1 + ((kidsD d).map fun p => size p.2).sum := by
  match k, h with
  | k + 1, h =>
    unfold size
    rw [sizeF_up h hk]
    show 1 + _ = 1 + _
    rw [sum_congr fun p hp => (sizeF_up (kids_tr h p hp) (by omega) : sizeF 12 p.2 = sizeF k p.2)]
theorem size_pos {k : Nat} {d : PyData} (h : Tr k d) (hk : k ≤ 12) : 1 ≤ size d := by rw [size_eq h hk]; omega
theorem Tr.up : ∀ {k : Nat} {d : PyData}, Tr k d → ∀ {m : Nat}, k ≤ m → Tr m d := by
  intro k d h
  induction h with
  | node h as hh hl hs ha hk ih => intro m hm; obtain ⟨m, rfl⟩ : ∃ j, m = j + 1 := ⟨m - 1, by omega⟩; exact .node h as hh hl hs ha fun a h => ih a h (by omega)
  | ask l t f hl hn he ht hf i1 i2 i3 =>
    intro m hm
    obtain ⟨m, rfl⟩ : ∃ j, m = j + 1 := ⟨m - 1, by omega⟩
    exact .ask l t f hl hn (fun x hx => i1 x hx (by omega)) (i2 (by omega)) fun e => i3 e (by omega)
theorem size_node {k : Nat} {h : Str} {as : List PyData} (t : Tr k (.tuple (.str h :: as))) (hk : k ≤ 12) (hh : h ∈ plainHeads) (hs : slots h ≤ as.length) : size (.tuple (.str h :: as)) = 1 + ((as.take (slots h)).map size).sum := by
  rw [size_eq t hk, kids_node hh, ← brK_snd _ _ hs, List.map_map]
  rfl
theorem size_ask {k : Nat} {l : List Snt} {t f : PyData} (z : Tr k (.tuple [.str "ask", .tuple (l.map Snt.d), t, f])) (hk : k ≤ 12) : size (.tuple [.str "ask", .tuple (l.map Snt.d), t, f]) = 1 + ((l.map fun x => size x.e).sum + size t + (if isNone f = true then 0 else size f)) := by
  rw [size_eq z hk, kids_ask, List.map_append, List.map_append, List.map_map, List.sum_append, List.sum_append]
  have e : (l.zipIdx.map ((fun p : PyData × PyData => size p.2) ∘ fun x => (PyData.tuple [.int 1, .int x.2, .int 1], x.1.e))) = l.map fun x => size x.e := by
    have : ∀ i, ((l.zipIdx i).map ((fun p : PyData × PyData => size p.2) ∘ fun x => (PyData.tuple [.int 1, .int x.2, .int 1], x.1.e))) = l.map fun x => size x.e := by
      induction l with
      | nil => intro i; rfl
      | cons a l ih => intro i; simp [List.zipIdx_cons]; exact (by
          have := fun i => (List.map_map (l := l.zipIdx i) (f := fun x : Snt × Nat => (PyData.tuple [.int 1, .int x.2, .int 1], x.1.e)) (g := fun p : PyData × PyData => size p.2))
          clear ih z this
          have go : ∀ (l : List Snt) (i : Nat), (l.zipIdx i).map ((fun p : PyData × PyData => size p.2) ∘ fun x => (PyData.tuple [.int 1, .int x.2, .int 1], x.1.e)) = l.map fun x => size x.e := by
            intro l
            induction l with
            | nil => intro i; rfl
            | cons a l ih => intro i; rw [List.zipIdx_cons, List.map_cons, List.map_cons, ih]; rfl
          exact go l _)
    exact this 0
  rw [e]
  split <;> simp
/-! ## the drawn bodies are such trees -/
theorem Spoken.nm {ps : List (Str × Str)} {gv : Str} {inner : Option Str} {n s : Str} (hw : WdOk ps gv) (h : Spoken ps inner n s) : NameOk n := by
  rcases h with h | h
  · exact (hw.ok _ h).1
  · rw [h.1]; decide +kernel
theorem tr_atom1 {h : Str} {a : PyData} (hh : h ∈ plainHeads) (hs : slots h = 0) (ha : Atom a) : Tr 1 (.tuple [.str h, a]) ∧ size (.tuple [.str h, a]) = 1 := by
  have t : Tr 1 (.tuple [.str h, a]) := .node h [a] hh (by show 1 ≤ 3; decide) (by rw [hs]; exact Nat.zero_le _) (by rw [hs]; intro x hx; exact List.mem_singleton.mp hx ▸ ha) (by rw [hs]; intro x hx; cases hx)
  exact ⟨t, by rw [size_node t (by decide) hh (by rw [hs]; exact Nat.zero_le _), hs]; rfl⟩
theorem tr_atom0 {h : Str} (hh : h ∈ plainHeads) (hs : slots h = 0) : Tr 1 (.tuple [.str h]) ∧ size (.tuple [.str h]) = 1 := by
  have t : Tr 1 (.tuple [.str h]) := .node h [] hh (by show 0 ≤ 3; decide) (by rw [hs]; exact Nat.zero_le _) (by intro x hx; simp at hx) (by rw [hs]; intro x hx; cases hx)
  exact ⟨t, by rw [size_node t (by decide) hh (by rw [hs]; exact Nat.zero_le _), hs]; rfl⟩
theorem tr_atom2 {h : Str} {a b : PyData} (hh : h ∈ plainHeads) (hs : slots h = 0) (ha : Atom a) (hb : Atom b) : Tr 1 (.tuple [.str h, a, b]) ∧ size (.tuple [.str h, a, b]) = 1 := by
  have t : Tr 1 (.tuple [.str h, a, b]) := .node h [a, b] hh (by show 2 ≤ 3; decide) (by rw [hs]; exact Nat.zero_le _) (by rw [hs]; intro x hx; exact (List.mem_cons.mp hx).elim (fun e => e ▸ ha) fun e => List.mem_singleton.mp e ▸ hb) (by rw [hs]; intro x hx; cases hx)
  exact ⟨t, by rw [size_node t (by decide) hh (by rw [hs]; exact Nat.zero_le _), hs]; rfl⟩
theorem tr_kids {k : Nat} {h : Str} {as : List PyData} (hh : h ∈ plainHeads) (hs : slots h = as.length) (hl : as.length ≤ 3) (hk : ∀ a ∈ as, Tr k a) (h12 : k < 12) : Tr (k + 1) (.tuple (.str h :: as)) ∧ size (.tuple (.str h :: as)) = 1 + (as.map size).sum := by
  have t : Tr (k + 1) (.tuple (.str h :: as)) := .node h as hh hl (by omega) (by rw [hs, List.drop_length]; intro x hx; cases hx) (by rw [hs, List.take_length]; exact hk)
  exact ⟨t, by rw [size_node t (by omega) hh (by omega), hs, List.take_length]⟩
theorem TestOk.tr {ps : List (Str × Str)} {gv : Str} {inner : Option Str} (hw : WdOk ps gv) {k : Nat} {t : PyData} (h : TestOk ps inner k t) : k ≤ 8 → Tr (k + 1) t ∧ size t + 1 ≤ 2 ^ (k + 1) := by
  have one : ∀ {k : Nat} {d : PyData}, Tr 1 d ∧ size d = 1 → Tr (k + 1) d ∧ size d + 1 ≤ 2 ^ (k + 1) := fun {k d} ⟨a, b⟩ => ⟨a.up (by omega), by
    rw [b, Nat.pow_succ]
    have := Nat.one_le_two_pow (n := k)
    omega⟩
  induction h with
  | lacks s h => exact fun _ => one (tr_atom0 (by decide +kernel) (by decide +kernel))
  | most n i h h1 h2 => exact fun _ => one (tr_atom2 (by decide +kernel) (by decide +kernel) (.inl ⟨_, rfl, h.nm hw⟩) (.inr ⟨i, rfl, by omega, by omega⟩))
  | is n w h h1 => exact fun _ => one (tr_atom2 (by decide +kernel) (by decide +kernel) (.inl ⟨_, rfl, h.nm hw⟩) (.inl ⟨_, rfl, h1⟩))
  | not a h ih =>
    intro hk
    obtain ⟨i1, i2⟩ := ih (by omega)
    obtain ⟨t1, t2⟩ := tr_kids (h := "not") (as := [a]) (by decide +kernel) (by show slots _ = 1; decide +kernel) (by show 1 ≤ 3; decide) (fun x hx => by rw [List.mem_singleton.mp hx]; exact i1) (by omega)
    refine ⟨t1, ?_⟩
    rw [t2, Nat.pow_succ]
    simp
    omega
  | both a b h1 h2 ih1 ih2 =>
    intro hk
    obtain ⟨i1, i2⟩ := ih1 (by omega)
    obtain ⟨j1, j2⟩ := ih2 (by omega)
    obtain ⟨t1, t2⟩ := tr_kids (h := "both") (as := [a, b]) (by decide +kernel) (by show slots _ = 2; decide +kernel) (by show 2 ≤ 3; decide) (fun x hx => by
      rcases List.mem_cons.mp hx with e | e
      · rw [e]; exact i1
      · rw [List.mem_singleton.mp e]; exact j1) (by omega)
    refine ⟨t1, ?_⟩
    rw [t2, Nat.pow_succ]
    simp
    omega
  | either a b h1 h2 ih1 ih2 =>
    intro hk
    obtain ⟨i1, i2⟩ := ih1 (by omega)
    obtain ⟨j1, j2⟩ := ih2 (by omega)
    obtain ⟨t1, t2⟩ := tr_kids (h := "either") (as := [a, b]) (by decide +kernel) (by show slots _ = 2; decide +kernel) (by show 2 ≤ 3; decide) (fun x hx => by
      rcases List.mem_cons.mp hx with e | e
      · rw [e]; exact i1
      · rw [List.mem_singleton.mp e]; exact j1) (by omega)
    refine ⟨t1, ?_⟩
    rw [t2, Nat.pow_succ]
    simp
    omega
theorem LeafOk.tr {ps : List (Str × Str)} {gv : Str} (hw : WdOk ps gv) {sort : Str} {inner : Option Str} {sent : Bool} {t : PyData} (h : LeafOk ps sort inner sent t) : Tr 1 t ∧ size t = 1 := by
  cases h with
  | none h => exact tr_atom0 (by decide +kernel) (by decide +kernel)
  | fail w h h1 => exact tr_atom1 (by decide +kernel) (by decide +kernel) (.inl ⟨_, rfl, h1⟩)
  | plus n i h hs h1 h2 => exact tr_atom2 (by decide +kernel) (by decide +kernel) (.inl ⟨_, rfl, h.nm hw⟩) (.inr ⟨i, rfl, by omega, by omega⟩)
  | param n h => exact tr_atom1 (by decide +kernel) (by decide +kernel) (.inl ⟨_, rfl, h.nm hw⟩)
  | number i hs h1 h2 => exact tr_atom1 (by decide +kernel) (by decide +kernel) (.inr ⟨i, rfl, by omega, by omega⟩)
  | word w hs h1 => exact tr_atom1 (by decide +kernel) (by decide +kernel) (.inl ⟨_, rfl, h1⟩)
theorem tr_ite {k n m1 m2 : Nat} {t a b : PyData} (h : Tr k t ∧ size t + 1 ≤ n) (h1 : Tr k a ∧ size a ≤ m1) (h2 : Tr k b ∧ size b ≤ m2) (hk : k < 12) : Tr (k + 1) (.tuple [.str "if", t, a, b]) ∧ size (.tuple [.str "if", t, a, b]) ≤ n + m1 + m2 := by
  obtain ⟨t1, t2⟩ := tr_kids (h := "if") (as := [t, a, b]) (by decide +kernel) (by show slots _ = 3; decide +kernel) (by show 3 ≤ 3; decide) (fun x hx => by
    rcases List.mem_cons.mp hx with e | e
    · rw [e]; exact h.1
    rcases List.mem_cons.mp e with e | e
    · rw [e]; exact h1.1
    · rw [List.mem_singleton.mp e]; exact h2.1) hk
  refine ⟨t1, ?_⟩
  rw [t2]
  simp
  omega
theorem ExprOk.tr {ps : List (Str × Str)} {gv : Str} (hw : WdOk ps gv) {sort : Str} {inner : Option Str} {sent : Bool} {k : Nat} {t : PyData} (h : ExprOk ps sort inner sent k t) : k ≤ 3 → Tr (k + 4) t ∧ size t + 16 ≤ 17 * 2 ^ k := by
  induction h with
  | @leaf k a h =>
    intro _
    obtain ⟨h1, h2⟩ := h.tr hw
    have := Nat.one_le_two_pow (n := k)
    exact ⟨h1.up (by omega), by omega⟩
  | @ite k t a b h h1 h2 i1 i2 =>
    intro hk
    obtain ⟨j1, j2⟩ := i1 (by omega)
    obtain ⟨k1, k2⟩ := i2 (by omega)
    obtain ⟨t1, t2⟩ := h.tr hw (by decide)
    obtain ⟨r1, r2⟩ := tr_ite (n := 16) ⟨t1.up (m := k + 4) (by omega), t2⟩ ⟨j1, Nat.le_refl _⟩ ⟨k1, Nat.le_refl _⟩ (by omega)
    exact ⟨r1, by rw [Nat.pow_succ]; omega⟩
theorem sum_le {l : List Snt} {m : Nat} (h : ∀ x ∈ l, size x.e ≤ m) : (l.map fun x => size x.e).sum ≤ l.length * m := by
  induction l with
  | nil => exact Nat.zero_le _
  | cons a l ih =>
    have h1 := h a (by simp)
    have h2 := ih fun x hx => h x (List.mem_cons_of_mem _ hx)
    rw [List.map_cons, List.sum_cons, List.length_cons, Nat.succ_mul]
    omega
theorem nodup_sub : ∀ {l m : List Str}, l.Nodup → (∀ x ∈ l, x ∈ m) → l.length ≤ m.length
  | [], m, _, _ => Nat.zero_le _
  | a :: l, m, hn, hs => by
    have ha := hs a (by simp)
    have h1 := List.length_erase_of_mem ha
    have h2 := nodup_sub (m := m.erase a) (List.nodup_cons.mp hn).2 fun x hx => by
      refine (List.mem_erase_of_ne fun e => ?_).mpr (hs x (List.mem_cons_of_mem _ hx))
      subst e
      exact (List.nodup_cons.mp hn).1 hx
    have h3 := List.length_pos_of_mem ha
    rw [List.length_cons]
    omega
theorem nodup_subn {ps : List (Str × Str)} {gv : Str} (hw : WdOk ps gv) {k : Nat} {l : List Snt} (h : SendsOk ps k l) : l.length ≤ 3 := by
  have h1 : (l.map (·.n)).length ≤ (ps.map (·.1)).length := nodup_sub h.nd fun n hn => by
    obtain ⟨x, hx, rfl⟩ := List.mem_map.mp hn
    exact List.mem_map.mpr ⟨_, (h.mem x hx).1, rfl⟩
  have := hw.len
  simp at h1
  omega
theorem AskOk.tr {ps : List (Str × Str)} {gv : Str} (hw : WdOk ps gv) {t : PyData} (h : AskOk ps gv 2 t) : Tr 7 t ∧ size t ≤ 212 := by
  cases h with
  | mk l t f h1 h2 h3 =>
    obtain ⟨t1, t2⟩ := h2.tr hw (by decide)
    have hl := nodup_subn hw h1
    have he : ∀ x ∈ l, Tr 6 x.e ∧ size x.e ≤ 52 := fun x hx => by
      obtain ⟨a, b⟩ := (h1.mem x hx).2.tr hw (by decide)
      exact ⟨a, by omega⟩
    have hf : f ≠ .none → Tr 6 f ∧ size f = 1 := fun e => by
      rcases h3 with h | h
      · exact absurd h e
      · obtain ⟨a, b⟩ := h.tr hw
        exact ⟨a.up (by decide), b⟩
    have z : Tr 7 (.tuple [.str "ask", .tuple (l.map Snt.d), t, f]) := .ask l t f hl (fun x hx => (hw.ok _ (h1.mem x hx).1).1) (fun x hx => (he x hx).1) t1 fun e => (hf e).1
    refine ⟨z, ?_⟩
    rw [size_ask z (by decide)]
    have hs := sum_le fun x hx => (he x hx).2
    have : l.length * 52 ≤ 3 * 52 := Nat.mul_le_mul_right _ hl
    have hf2 : (if isNone f = true then 0 else size f) ≤ 1 := by
      by_cases e : f = .none
      · subst e; decide
      · rw [(hf e).2]; split <;> decide
    omega
theorem WrapOk.tr {ps : List (Str × Str)} {gv : Str} (hw : WdOk ps gv) {k : Nat} {t : PyData} (h : WrapOk ps gv k t) : k ≤ 3 → Tr (k + 7) t ∧ size t + 16 ≤ 228 * 2 ^ k := by
  induction h with
  | @leaf k a h =>
    intro _
    obtain ⟨h1, h2⟩ := h.tr hw
    have := Nat.one_le_two_pow (n := k)
    exact ⟨h1.up (by omega), by omega⟩
  | @ask k a h =>
    intro _
    obtain ⟨h1, h2⟩ := h.tr hw
    have := Nat.one_le_two_pow (n := k)
    exact ⟨h1.up (by omega), by omega⟩
  | @ite k t a b h h1 h2 i1 i2 =>
    intro hk
    obtain ⟨j1, j2⟩ := i1 (by omega)
    obtain ⟨k1, k2⟩ := i2 (by omega)
    obtain ⟨t1, t2⟩ := h.tr hw (by decide)
    obtain ⟨r1, r2⟩ := tr_ite (n := 16) ⟨t1.up (m := k + 7) (by omega), t2⟩ ⟨j1, Nat.le_refl _⟩ ⟨k1, Nat.le_refl _⟩ (by omega)
    exact ⟨r1, by rw [Nat.pow_succ]; omega⟩
theorem BodyOk.tr {ps : List (Str × Str)} {gv : Str} (hw : WdOk ps gv) {outer : Bool} {t : PyData} (h : BodyOk ps gv outer t) : Tr 10 t ∧ size t ≤ 1824 := by
  unfold BodyOk at h
  cases outer with
  | true =>
    obtain ⟨a, b⟩ := WrapOk.tr hw h (by decide)
    exact ⟨a, by omega⟩
  | false =>
    obtain ⟨a, b⟩ := ExprOk.tr hw h (by decide)
    exact ⟨a.up (by decide), by omega⟩
end Ov
namespace Ov
open PySem PySem.Spec PyProof.Rows L2
theorem iteT' {p q : Prop} (h : if true = true then p else q) : p := by simpa using h
theorem iteF' {p q : Prop} (h : if false = true then p else q) : q := by simpa using h
theorem del_set {S : Sto} {D : Addr} {o : AO} (h : S D = none) : (S.set D o).del D = S := by
  funext a
  by_cases e : a = D
  · rw [e, del_same, h]
  · rw [del_ne e, set_ne e]
/-! ## enumerate(tuple) -/
def tupIt (a : Addr) : Obj := { cls := .type "tuple_iterator", data := .fields #[.ref a, .int 0 0] }
def enuOb (i : Addr) : Obj := { cls := .type "enumerate", data := .fields #[.none, .bool false, .ref i, rawInt 0, .none, .none] }
theorem meetsT (a : Addr) (its : Array Value) : Meets (Builtin.«enumerate.__new__» ⟨[.type "enumerate", .ref a], []⟩) fun _ R s => s.heap.IsTuple a its ∧
    R (.ok (.ret (.ref (s.heap.push (tupIt a)).objs.size))) { s with heap := (s.heap.push (tupIt a)).push (enuOb s.heap.objs.size) } := .of_wp fun prog w A R s hh => by
  obtain ⟨hp, g, d, tk, os⟩ := s
  obtain ⟨hT, h⟩ := hh
  have hsub := sub_enumerate
  have q1 : ∀ {A' : Around} {E Q : Value → Shared → Prop}, Q (.ref hp.objs.size) ⟨hp.push (tupIt a), g, d, tk, os⟩ → wpAny (model prog w) A' (pyIter (.ref a)) Q E ⟨hp, g, d, tk, os⟩ := fun q => wpAny_pyIter_tuple hT q
  wp_walk using q1
  refine wpAny_stack_any fun st => wpAny_pure ?_
  split
  · rename_i c _ _ _ _ _
    cases (c == Value.type "enumerate") <;> (wp_walk using q1; exact ⟨_, rfl, h⟩)
  · wp_walk using q1; exact ⟨_, rfl, h⟩
section
variable {prog : Program} {w : World} {A : Around} {E : Value → Shared → Prop} {s : Shared}
theorem call_enuT {a : Addr} {its : Array Value} {Q : Value → Shared → Prop} (hT : s.heap.IsTuple a its)
    (k : ∀ g : Heap, IsEnum g (s.heap.objs.size + 1) s.heap.objs.size 0 .none → g.IsTupleIter s.heap.objs.size a 0 → (∀ b o, s.heap.get? b = some o → g.get? b = some o) → Q (.ref (s.heap.objs.size + 1)) { s with heap := g }) : wpAny (model prog w) A (call (.type "enumerate") [.ref a]) Q E s := by
  have hz : (s.heap.push (tupIt a)).objs.size = s.heap.objs.size + 1 := Heap.size_push ..
  have he : IsEnum ((s.heap.push (tupIt a)).push (enuOb s.heap.objs.size)) (s.heap.objs.size + 1) s.heap.objs.size 0 .none := by
    have q := Heap.get?_push_size (s.heap.push (tupIt a)) (o := enuOb s.heap.objs.size) rfl
    rwa [hz] at q
  refine callType_new F.called_enumerate (by decide) (F.typeCall_enumerate_1 _) (F.newCall_enumerate_1 _) (fun ob => F.args_object_init_2 ob _) F.entry_enumerate_new (meetsT a its) ⟨hT, ?_⟩
  show _ ∧ _
  rw [hz]
  exact ⟨⟨_, he, rfl⟩, k _ he ⟨_, Heap.get?_push_of_some _ (Heap.get?_push_size _ rfl), rfl, rfl⟩ fun b o x => Heap.get?_push_of_some _ (Heap.get?_push_of_some _ x)⟩
end
/-- the tuple at a, its items in new pairs with their numbers -/
def IteT (K : PySem.W.Frag) (a : Addr) : It :=
  ⟨fun i H => ∃ (xs : List V) (x : V), SqT K H a xs ∧ xs[i]? = some x, fun i H v H' => ∃ T x, v = .ref T ∧ H T = none ∧ H' = upd H T (.tup [.int (i : Nat), x]) ∧ ∀ xs, SqT K H a xs → xs[i]? = some x, fun i H => ∃ xs : List V, SqT K H a xs ∧ xs.length = i⟩
theorem turn_enuT {P : Program} {w : World} {K : PySem.W.Frag} {es : List Expr} {kk : Nat} {tp : Pos} (a e it : Addr) :
    Turn P w K (.Tuple es kk tp) (IteT K a) [e, it] e (fun i h => (∃ old, IsEnum h e it ((i : Nat) : Int) old) ∧ h.IsTupleIter it a i ∧ e ≠ it ∧ a ≠ e ∧ a ≠ it) where
  mem := List.mem_cons_self ..
  obj := by
    rintro i h ⟨⟨old, he⟩, ⟨o, ho, hc, hd⟩, _⟩ b hb
    rcases List.mem_cons.mp hb with z | z
    · subst z; exact ⟨_, he, fun v q => nomatch q⟩
    · rw [List.mem_singleton.mp z]; exact ⟨o, ho, fun v q => by rw [hd] at q; cases q⟩
  keep := fun i h h' ⟨⟨old, he⟩, hi, hn⟩ k => ⟨⟨old, k e (by simp) _ he⟩, hi.at fun o q => k it (by simp) o q, hn⟩
  item := by
    intro X hP hw hK hc i pins s σ H E I hf st hg
    subst hP hw hK
    obtain ⟨⟨old, he⟩, hit, hne, hae, hai⟩ := st
    obtain ⟨xs, x, hq, hx⟩ := hg
    obtain ⟨its, rv, p, hz⟩ := I.tuple hq
    have hT : s.heap.IsTuple a its.toArray := p
    obtain ⟨u, hu, ru⟩ := rv.get hx
    have hel : e < s.heap.objs.size := Heap.lt_size he
    have hil : it < s.heap.objs.size := by
      obtain ⟨_, q, _⟩ := hit
      exact Heap.lt_size q
    have hlt : i < its.toArray.size := by
      have h1 : its[i]? = some u := hu
      have := (List.getElem?_eq_some_iff.mp h1).1
      simpa using this
    have D := Draws.tuple (prog := X.prog) (w := X.w) (A := X.A.in1) (I.ok.hd hc) it a hai its.toArray
    refine wpAny_pyNext_enum_itemD D he ⟨hit, hT⟩ hlt hne (by simp [hne, Ne.symm hae]) fun y h' tk hy ho st' hT2 hsz hk => ?_
    have hy' : y = u := by
      have h2 : its.toArray[i]? = some u := by simpa using hu
      rw [hy] at h2
      exact Option.some.inj h2
    subst hy'
    refine ⟨_, rfl, wpAny_letOwnedTupleGo_enum (s := { s with heap := h', toks := tk + 1 }) ho fun h'' he' sb => ?_⟩
    have hT3 : h''.get? s.heap.objs.size = some { cls := .type "tuple", data := .seq #[.int i tk, y] } := (sb.2 _ (Nat.ne_of_gt hel)).trans hT2
    have new : ObjOk X.prog X.w (upd H s.heap.objs.size (.tup [.int (i : Nat), x])) h'' s.heap.objs.size (.tup [.int (i : Nat), x]) :=
      ⟨by show 2 ≤ sizeLine; decide, [.int i tk, y], .cons ⟨_, rfl⟩ (.cons ru .nil), ⟨_, hT3, rfl, _, rfl⟩⟩
    have I1 : Inv X pins σ (upd H s.heap.objs.size (.tup [.int (i : Nat), x])) { s with heap := h'', toks := tk + 1 } :=
      I.turnedNew (ch := [e, it]) (fun b ob hb q => (sb.2 b (fun z => hb (by simp [z]))).trans (hk b ob (fun z => hb (by simp [z])) (fun z => hb (by simp [z])) q)) hf (Nat.le_refl _) new
    refine ⟨.ref s.heap.objs.size, _, I1, rfl, ⟨_, x, rfl, I.hok.fresh (Nat.le_refl _), rfl, fun ys hy => by rw [I.tuple_inj hy hq]; exact hx⟩, ⟨⟨y, ?_⟩, st'.1.at fun o q => (sb.2 it (Ne.symm hne)).trans q, hne, hae, hai⟩, fun b hb => ?_⟩
    · have e1 : ((i + 1 : Nat) : Int) = (i : Int) + 1 := by omega
      rw [e1]
      exact he'
    · have hb' : b < s.heap.objs.size := by
        rcases List.mem_cons.mp hb with z | z
        · rw [z]; exact hel
        · rw [List.mem_singleton.mp z]; exact hil
      rw [upd_ne (Nat.ne_of_lt hb')]
      exact (hf b hb).1
  done := by
    intro X hP hw hK hc i pins s σ H E I hf st hg
    subst hP hw hK
    obtain ⟨⟨old, he⟩, hit, hne, hae, hai⟩ := st
    obtain ⟨xs, hq, rfl⟩ := hg
    obtain ⟨its, rv, p, hz⟩ := I.tuple hq
    have hT : s.heap.IsTuple a its.toArray := p
    obtain ⟨f0, f1, f2, f3, f4, f5⟩ := hf it (by simp)
    have hl : xs.length = its.toArray.size := by simpa using rv.length
    have D := Draws.tuple (prog := X.prog) (w := X.w) (A := X.A.in1) (I.ok.hd hc) it a hai its.toArray
    exact wpAny_pyNext_enum_endD D he (hl ▸ ⟨hit, hT⟩) fun g eb => ⟨rfl, I.turned (t' := s.toks) (fun b o hb q => eb b o hb q) f0 f1 f3 f4 f5⟩
  self := fun A i s Q E ⟨⟨_, he⟩, _⟩ h => wpAny_pyIter_enum he h
def iEnumT (K : PySem.W.Frag) (ta : TA) : TI := fun σ H R => ta σ H fun vs H1 => ∃ a xs, vs = [.ref a] ∧ SqT K H1 a xs ∧ R (IteT K a) H1
theorem pi_enuT {X : Cx} {e : Expr} {ta : TA} {p pos tp : Pos} {es : List Expr} {kk : Nat} (hg : Gl X "enumerate") (hm : X.mg "enumerate" = none) (ha : PA X [e] ta) (hs : starEach [e] X.env = [(false, eval e X.env)] := by rfl) : PI X (.Tuple es kk tp) (.Call (.Name "enumerate" p) [e] [] pos) (iEnumT X.K ta) := by
  refine ⟨fun pins s σ H R I h => Call_ (ld_blt I hg hm boot_enumerate (PyProof.Rows.callWith_type1 (thn (ha.run pos pins s σ H _ I h) fun us s1 ⟨vs, H1, I1, r1, a, xs, ex, hq, q⟩ => ?_) hs rfl))⟩
  subst ex
  cases r1 with
  | cons r rr =>
    cases rr
    cases r
    obtain ⟨its, rv, pt, hz⟩ := I1.tuple hq
    have hT : s1.heap.IsTuple a its.toArray := pt
    have hal : a < s1.heap.objs.size := by
      obtain ⟨o, ho, _⟩ := id hT
      exact Heap.lt_size ho
    refine call_enuT hT fun g he hit hk => wpAny_pyIter_enum he ?_
    have I2 : Inv X pins σ H1 { s1 with heap := g } := I1.kept (t' := s1.toks) hk
    refine ⟨s1.heap.objs.size + 1, [s1.heap.objs.size + 1, s1.heap.objs.size], _, _, H1, rfl, I2, turn_enuT a (s1.heap.objs.size + 1) s1.heap.objs.size, ⟨⟨.none, he⟩, hit, Nat.succ_ne_self _, Nat.ne_of_lt (Nat.lt_succ_of_lt hal), Nat.ne_of_lt hal⟩, fun b hb => ?_, q⟩
    have hle : s1.heap.objs.size ≤ b := by
      rcases List.mem_cons.mp hb with z | z
      · rw [z]; exact Nat.le_succ _
      · rw [List.mem_singleton.mp z]; exact Nat.le_refl _
    exact I1.fpOk hle (I1.hok.fresh hle)
theorem walk_enuT {K : PySem.W.Frag} {a : Addr} {xs : List V} : Walk (IteT K a) xs.length (fun H => SqT K H a xs) (YPair (fun i => some (.int (i : Nat))) (fun i => xs[i]?)) :=
  ⟨fun i _ hi q => ⟨xs, xs[i], q, by simp [hi]⟩, fun _ q => ⟨xs, q, rfl⟩, fun i H v H' _ q ⟨T, x, h1, h2, h3, h4⟩ => ⟨T, .int (i : Nat), x, h1, h2, h3, rfl, h4 xs q⟩⟩
def iEnumA (K : PySem.W.Frag) (ta : TA) : TI := fun σ H R => iEnum K ta σ H R ∨ iEnumT K ta σ H R
theorem pi_enumA {X : Cx} (K : PySem.W.Frag) {e : Expr} {ta : TA} {p pos tp : Pos} {es : List Expr} {kk : Nat} (hg : Gl X "enumerate") (hm : X.mg "enumerate" = none) (ha : PA X [e] ta) (hs : starEach [e] X.env = [(false, eval e X.env)] := by rfl) (h : X.K = K := by rfl) : PI X (.Tuple es kk tp) (.Call (.Name "enumerate" p) [e] [] pos) (iEnumA K ta) :=
  h ▸ pi_or (pi_enum hg hm ha hs) (pi_enuT hg hm ha hs)
section
variable {K : PySem.W.Frag} {δ : Dl} {S : Sto} {tas : TA}
theorem wi_enuL {P : Nat → (Nat → PyData) → Sto → Prop} (h : WA K tas δ S fun as S1 => ∃ ds, as = [.dat (.list ds)] ∧ P ds.length (fun i => .tuple [.int i, ds.getD i .none]) S1) : WI K (iEnumA K tas) δ S P := fun σ H R rs s k => .inl (wi_enum h σ H R rs s k)
theorem wi_enuT {P : Nat → (Nat → PyData) → Sto → Prop} (h : WA K tas δ S fun as S1 => ∃ ds, as = [.dat (.tuple ds)] ∧ P ds.length (fun i => .tuple [.int i, ds.getD i .none]) S1) : WI K (iEnumA K tas) δ S P := fun σ H R rs s k =>
  .inr (h σ H _ rs s fun vs H1 as S1 g1 r1 ⟨ds, e, p⟩ => by
    subst e
    cases r1 with
    | cons ra r2 =>
      cases r2
      cases ra with
      | @tup a xs _ h1 h2 =>
        have hl := dpAll_len h2
        refine ⟨a, xs, rfl, ex_t msk_ex h1, k _ H1 S1 ds.length _ g1 ⟨fun H => SqT K H a xs, _, hl ▸ walk_enuT, fun S' H' g => ex_t (g.ex.trans msk_ex) h1, fun i S' H' x H'' hi g y => ?_⟩ p⟩
        refine pair_dat (u := fun _ => True) (w := fun _ => True) g.rs y (fun z e => ?_) fun z e => dp_up g.ex (get_dat h2 e)
        cases e
        exact Dq.int _)
end
section
variable {K : PySem.W.Frag} {S : Sto} {P : Po} {te : TE} {δ : Dl} {tt : TT}
theorem we_lcO {wi : TI} {g : TG} {vs : List Nat} (hw : Wip g vs) (h : WI K wi δ S fun n f S1 => n ≤ 100000 ∧ ∀ D, S1 D = none → ∃ I : Nat → List PyData → Sto → Prop, I 0 [] (S1.set D (.lst [])) ∧
    (∀ i acc S', i < n → acc.length ≤ i → S' D = some (.lst (dats acc)) → I i acc S' → WG K g (.dat (f i)) (wipeD δ vs) S' fun δ2 S2 => WT K tt δ2 S2 fun b S3 =>
      if b = true then WE K te δ2 S3 fun y S4 => ∃ d, y = .dat d ∧ S4 D = some (.lst (dats acc)) ∧ I (i + 1) (acc ++ [d]) (S4.set D (.lst (dats (acc ++ [d])))) else S3 D = some (.lst (dats acc)) ∧ I (i + 1) acc S3) ∧
    ∀ acc S', acc.length ≤ n → S' D = some (.lst (dats acc)) → I n acc S' → P (.own D) S') : WE K (tLc wi g tt te vs) δ S P := fun σ H Q rs s k =>
  h σ H _ rs s fun J H1 S1 n fd g1 ⟨G, Y, w, hG, hY⟩ ⟨hn, hI⟩ D hD => by
    obtain ⟨I, h0, hs, hd⟩ := hI D (g1.rs.none_of hD)
    have g0 : Go K S1 H1 (S1.set D (.lst [])) (upd H1 D (.lst [])) := go_lst g1.rs .nil hD
    refine lc_it w (fun i H' => ∃ acc S', Go K S1 H1 S' H' ∧ acc.length ≤ i ∧ S' D = some (.lst (dats acc)) ∧ I i acc S') ⟨[], _, g0, Nat.le_refl _, set_same, h0⟩ (fun i H' _ ⟨acc, S', g', _⟩ => hG S' H' g') ?_ ?_
    · rintro i x H' H'' hi ⟨acc, S', g', hl, hD', p⟩ y
      obtain ⟨g2, q⟩ := hY i S' H' x H'' hi g' y
      have sw : Sl K S' H'' (wipe σ vs) (wipeD δ vs) := ((((s.go g1).go g').go g2)).wipe vs
      have z := hw x (wipe σ vs) H'' _ (hs i acc S' hi hl hD' p x (wipe σ vs) H'' (fun σ2 H2 => tt σ2 H2 fun b H3 => if b = true then te σ2 H3 fun y H4 => ∃ acc, H4 D = some (.lst acc) ∧ acc.length < sizeLine ∧ (∃ acc' S', Go K S1 H1 S' (upd H4 D (.lst (acc ++ [y]))) ∧ acc'.length ≤ i + 1 ∧ S' D = some (.lst (dats acc')) ∧ I (i + 1) acc' S') else ∃ acc' S', Go K S1 H1 S' H3 ∧ acc'.length ≤ i + 1 ∧ S' D = some (.lst (dats acc')) ∧ I (i + 1) acc' S') g2.rs sw q fun σ2 H2 δ2 S2 g3 s2 w2 => ?_)
      · revert z
        have e : wipe (wipe σ vs) vs = wipe σ vs := wipe_wipe σ vs vs fun _ h => h
        rw [e]
        exact fun z => z
      · refine w2 σ2 H2 _ g3.rs s2 fun b H3 S3 g4 w3 => ?_
        have gg := ((g'.trans g2).trans g3).trans g4
        cases b with
        | false => exact iteF ⟨acc, S3, gg, Nat.le_succ_of_le hl, w3.1, w3.2⟩
        | true =>
          refine iteT (w3 σ2 H3 _ g4.rs (s2.go g4) fun yv H4 ya S4 g5 r5 ⟨dd, e5, hD4, p5⟩ => ?_)
          subst e5
          obtain ⟨xs, q1, q2⟩ := g5.rs D _ hD4
          have hlen : xs.length = acc.length := by rw [q2.len]; simp [dats]
          refine ⟨xs, q1, ?_, acc ++ [dd], _, (gg.trans g5).trans (put_lst (p := D) g5.rs ?_ (by rw [hD4]; rfl)), by simp; omega, set_same, p5⟩
          · have : acc.length < 100000 := by omega
            rw [hlen]
            exact Nat.lt_of_lt_of_le this (by decide)
          · rw [← dats_snoc]
            exact q2.app (.cons r5 .nil)
    · rintro H' ⟨acc, S', g', hl, hD', p⟩
      exact k _ H' (.own D) S' (g1.trans g') rfl (hd acc S' hl hD' p)
/-- a comprehension that leaves all as it is -/
theorem we_lcm {wi : TI} {g : TG} {vs : List Nat} (hw : Wip g vs) (h : WI K wi δ S fun n f S1 => n ≤ 100000 ∧ ∃ R : Nat → List PyData, R 0 = [] ∧
    (∀ i D, i < n → S1 D = none → WG K g (.dat (f i)) (wipeD δ vs) (S1.set D (.lst (dats (R i)))) fun δ2 S2 => WT K tt δ2 S2 fun b S3 =>
      if b = true then WE K te δ2 S3 fun y S4 => ∃ d, y = .dat d ∧ S4 = S1.set D (.lst (dats (R i))) ∧ R (i + 1) = R i ++ [d] else S3 = S1.set D (.lst (dats (R i))) ∧ R (i + 1) = R i) ∧
    P (.dat (.list (R n))) S1) : WE K (tLc wi g tt te vs) δ S P := by
  refine we_lc hw fun σ H Q rs s k => h σ H Q rs s fun J H1 S1 n f g1 dw ⟨hn, R, h0, hs, hd⟩ => k J H1 S1 n f g1 dw ⟨hn, fun D hD => ⟨fun i acc S' => S' = S1.set D (.lst (dats acc)) ∧ acc = R i, ⟨rfl, h0.symm⟩, ?_, ?_⟩⟩
  · rintro i acc S' hi hacc hD' ⟨rfl, rfl⟩
    have z := hs i D hi hD
    intro v σ H Q rs s r k
    refine z v σ H Q rs s r fun σ' H' δ' S'' g s' w => k σ' H' δ' S'' g s' ?_
    intro σ1 H2 Q1 rs1 s1 k1
    refine w σ1 H2 Q1 rs1 s1 fun b H3 S3 g3 w3 => k1 b H3 S3 g3 ?_
    cases b with
    | true => exact iteT (WE.imp (iteT' w3) fun y S4 ⟨d, e1, e2, e3⟩ => ⟨d, e1, by rw [e2, set_same], by rw [e2, set_set], e3.symm⟩)
    | false =>
      have w4 := iteF' w3
      exact iteF ⟨by rw [w4.1, set_same], w4.1, w4.2.symm⟩
  · rintro acc S' hacc hD' ⟨rfl, rfl⟩
    have e : (S1.set D (.lst (dats (R n)))).del D = S1 := by
      funext a
      by_cases h : a = D
      · rw [h, del_same, hD]
      · rw [del_ne h, set_ne h]
    rw [e]
    exact hd
theorem we_lcmO {wi : TI} {g : TG} {vs : List Nat} (hw : Wip g vs) (h : WI K wi δ S fun n f S1 => n ≤ 100000 ∧ ∃ R : Nat → List PyData, R 0 = [] ∧
    (∀ i D, i < n → S1 D = none → WG K g (.dat (f i)) (wipeD δ vs) (S1.set D (.lst (dats (R i)))) fun δ2 S2 => WT K tt δ2 S2 fun b S3 =>
      if b = true then WE K te δ2 S3 fun y S4 => ∃ d, y = .dat d ∧ S4 = S1.set D (.lst (dats (R i))) ∧ R (i + 1) = R i ++ [d] else S3 = S1.set D (.lst (dats (R i))) ∧ R (i + 1) = R i) ∧
    ∀ D, S1 D = none → P (.own D) (S1.set D (.lst (dats (R n))))) : WE K (tLc wi g tt te vs) δ S P := by
  refine we_lcO hw fun σ H Q rs s k => h σ H Q rs s fun J H1 S1 n f g1 dw ⟨hn, R, h0, hs, hd⟩ => k J H1 S1 n f g1 dw ⟨hn, fun D hD => ⟨fun i acc S' => S' = S1.set D (.lst (dats acc)) ∧ acc = R i, ⟨rfl, h0.symm⟩, ?_, ?_⟩⟩
  · rintro i acc S' hi hacc hD' ⟨rfl, rfl⟩
    have z := hs i D hi hD
    intro v σ H Q rs s r k
    refine z v σ H Q rs s r fun σ' H' δ' S'' g s' w => k σ' H' δ' S'' g s' ?_
    intro σ1 H2 Q1 rs1 s1 k1
    refine w σ1 H2 Q1 rs1 s1 fun b H3 S3 g3 w3 => k1 b H3 S3 g3 ?_
    cases b with
    | true => exact iteT (WE.imp (iteT' w3) fun y S4 ⟨d, e1, e2, e3⟩ => ⟨d, e1, by rw [e2, set_same], by rw [e2, set_set], e3.symm⟩)
    | false =>
      have w4 := iteF' w3
      exact iteF ⟨by rw [w4.1, set_same], w4.1, w4.2.symm⟩
  · rintro acc S' hacc hD' ⟨rfl, rfl⟩
    exact hd D hD
end
def spKids : List AV → Sto → Po → Prop := fun as S P => ∃ d k, as = [.dat d] ∧ Tr k d ∧ P (.dat (.tuple ((kidsD d).map kpD))) S
def spKidsA : List AV → Sto → Po → Prop := fun as S P => ∃ (l : List Snt) (t f : PyData), as = [.dat (.tuple [.str "ask", .tuple (l.map Snt.d), t, f])] ∧ l.length ≤ 3 ∧ P (.dat (.tuple ((kidsD (.tuple [.str "ask", .tuple (l.map Snt.d), t, f])).map kpD))) S
def slotF (h : Str) : Option PyData := if slots h = 0 then none else some (.int (slots h))
def slotV (h : Str) : Option V := if slots h = 0 then none else some (.int (slots h))
theorem slot_fv (k : Str) (K : PySem.W.Frag) (H : Hp) : (∃ v d, slotV k = some v ∧ slotF k = some d ∧ Dq K H v d) ∨ (slotV k = none ∧ slotF k = none) := by
  unfold slotV slotF
  by_cases h : slots k = 0
  · rw [if_pos h, if_pos h]; exact .inr ⟨rfl, rfl⟩
  · rw [if_neg h, if_neg h]; exact .inl ⟨_, _, rfl, rfl, Dq.int _⟩
theorem slotF_getD (k : Str) : (slotF k).getD (.int 0) = .int (slots k) := by
  unfold slotF
  by_cases h : slots k = 0
  · rw [if_pos h, h]; rfl
  · rw [if_neg h]; rfl
/-! ## stacks of trees -/
def sizeA : AV → Nat
  | .dat d => size d
  | _ => 0
def muL (D : Addr) (S : Sto) : Nat := match S D with
  | some (.lst as) => (as.map sizeA).sum
  | _ => 0
theorem muL_set {S : Sto} {D : Addr} {l : List PyData} : muL D (S.set D (.lst (dats l))) = (l.map size).sum := by
  unfold muL
  rw [set_same]
  show ((dats l).map sizeA).sum = _
  unfold dats
  rw [List.map_map]
  rfl
theorem len_le_sum {k : Nat} (hk : k ≤ 12) : ∀ {l : List PyData}, (∀ x ∈ l, Tr k x) → l.length ≤ (l.map size).sum
  | [], _ => Nat.zero_le _
  | a :: l, h => by
    have h1 := size_pos (h a (by simp)) hk
    have h2 := len_le_sum hk fun x hx => h x (List.mem_cons_of_mem _ hx)
    rw [List.map_cons, List.sum_cons, List.length_cons]
    omega
theorem kids_tr' {k : Nat} {d : PyData} (h : Tr k d) : ∀ p ∈ kidsD d, Tr k p.2 := by
  match k, h with
  | k + 1, h => exact fun p hp => (kids_tr h p hp).up (Nat.le_succ k)
theorem size_kids {k : Nat} {d : PyData} (h : Tr k d) (hk : k ≤ 12) : size d = 1 + (((kidsD d).map (·.2)).map size).sum := by
  rw [size_eq h hk, List.map_map]
  rfl
def spCount : List AV → Sto → Po → Prop := fun as S P => ∃ d k, as = [.dat d] ∧ Tr k d ∧ k ≤ 12 ∧ size d ≤ 100000 ∧ P (.dat (.int (size d : Nat))) S
/-- all trees in one, in some order -/
def spAll : List AV → Sto → Po → Prop := fun as S P => ∃ d k, as = [.dat d] ∧ Tr k d ∧ k ≤ 12 ∧ size d ≤ 100000 ∧ ∀ l : List PyData, l.length = size d → (∀ x ∈ l, Tr k x ∧ size x ≤ size d) → P (.dat (.list l)) S
theorem valA_none {kvs : List (Key × AV)} {k : Key} (h : valA kvs k = none) : (kvs.any fun kv => decide (kv.1 = k)) = false := by
  unfold valA at h
  rw [Option.map_eq_none_iff, List.find?_eq_none] at h
  rw [List.any_eq_false]
  exact h
def tabL : List (Key × AV) := [(.inr "if", .dat (.int 3)), (.inr "not", .dat (.int 1)), (.inr "both", .dat (.int 2)), (.inr "either", .dat (.int 2))]
theorem tab_get (h : Str) : (valA tabL (.inr h)).getD (.dat (.int 0)) = .dat (.int (slots h)) := by
  unfold valA tabL slots
  by_cases h1 : h = Str.ofString "if"
  · subst h1; simp
  by_cases h2 : h = Str.ofString "not"
  · subst h2; simp [h1, Ne.symm h1]
  by_cases h3 : h = Str.ofString "both"
  · subst h3; simp [h1, h2, Ne.symm h1, Ne.symm h2]
  by_cases h4 : h = Str.ofString "either"
  · subst h4; simp [h1, h2, h3, Ne.symm h1, Ne.symm h2, Ne.symm h3]
  · simp [h1, h2, h3, h4, Ne.symm h1, Ne.symm h2, Ne.symm h3, Ne.symm h4]
theorem tab_nodup : ([.inr "if", .inr "not", .inr "both", .inr "either"] : List Key).Nodup := by decide +kernel
end Ov
namespace Ov
open PySem PySem.Spec PyProof.Rows L2
/-! ## such trees can be compared and shown -/
theorem Atom.lay {a : PyData} (h : Atom a) : a.canLay0 = true ∧ a.depth ≤ 0 := by
  rcases h with ⟨x, rfl, hx⟩ | ⟨i, rfl, _⟩
  · exact ⟨by simp [PyData.canLay0, lower_ok hx.2.2], by simp [PyData.depth]⟩
  · exact ⟨by simp [PyData.canLay0], by simp [PyData.depth]⟩
theorem Tr.lay {k : Nat} {d : PyData} (h : Tr k d) : d.canLay0 = true ∧ d.depth ≤ 3 * k := by
  induction h with
  | @node k h as hh hl hs ha hk ih =>
    have z : ∀ x ∈ PyData.str h :: as, x.canLay0 = true ∧ x.depth ≤ 3 * k := fun x hx => by
      rcases List.mem_cons.mp hx with e | hx
      · subst e
        exact ⟨by simp [PyData.canLay0, lower_ok (heads_ok h hh).1.2.2], by simp [PyData.depth]⟩
      · rw [← List.take_append_drop (slots h) as] at hx
        rcases List.mem_append.mp hx with h1 | h1
        · exact ih x h1
        · obtain ⟨q1, q2⟩ := (ha x h1).lay
          exact ⟨q1, by omega⟩
    obtain ⟨q1, q2⟩ := lay_list z
    refine ⟨by simp only [PyData.canLay0]; exact q1, by simp only [PyData.depth]; omega⟩
  | @ask k l t f hl hn he ht hf i1 i2 i3 =>
    have zf : f.canLay0 = true ∧ f.depth ≤ 3 * k := by
      by_cases e : f = .none
      · subst e; exact ⟨by simp [PyData.canLay0], by simp [PyData.depth]⟩
      · exact i3 e
    have zl : ∀ x ∈ l.map Snt.d, x.canLay0 = true ∧ x.depth ≤ 3 * k + 1 := fun x hx => by
      obtain ⟨y, hy, rfl⟩ := List.mem_map.mp hx
      obtain ⟨a, b⟩ := i1 y hy
      exact ⟨by simp [Snt.d, PyData.canLay0, PyData.canLayAll0, lower_ok (hn y hy).2.2, a], by simp only [Snt.d, PyData.depth, PyData.depthAll]; omega⟩
    obtain ⟨q1, q2⟩ := lay_list zl
    have hk : PyData.strOk "ask" = true := by decide +kernel
    refine ⟨by simp [PyData.canLay0, PyData.canLayAll0, hk, q1, i2.1, zf.1], ?_⟩
    simp only [PyData.depth, PyData.depthAll]
    have := i2.2
    have := zf.2
    omega
theorem Tr.shp {k : Nat} {d : PyData} (h : Tr k d) (hk : k ≤ 12) : SeqAt.shaped d = true := by
  obtain ⟨a, b⟩ := h.lay
  simp only [SeqAt.shaped, a, Bool.true_and]
  exact decide_eq_true (by omega)
theorem sh_trs {k : Nat} {l : List PyData} (h : ∀ x ∈ l, Tr k x) (hk : k ≤ 12) : SeqAt.shaped (.list l) = true := sh_list fun x hx => by
  obtain ⟨a, b⟩ := (h x hx).lay
  exact ⟨a, by omega⟩
theorem ne_nilD (l : List PyData) : PyData.eqv (.list l) (.list []) = l.isEmpty := by cases l <;> simp [PyData.eqv, PyData.eqvAll]
/-! how long the text is -/
mutual
def cst : PyData → Nat
  | .tuple xs => cstAll xs + 5
  | .list xs => cstAll xs + 5
  | .none => 100
  | .bool _ => 100
  | .int _ => 100
  | .str _ => 100
  | .dict _ => 0
def cstAll : List PyData → Nat
  | [] => 0
  | x :: xs => cst x + cstAll xs
end
mutual
def fit : PyData → Bool
  | .tuple xs => fitAll xs
  | .list xs => fitAll xs
  | .none => true
  | .bool _ => true
  | .int i => decide (-1000000 ≤ i) && decide (i ≤ 1000000)
  | .str x => PyData.strOk x && decide (x.length ≤ 8)
  | .dict _ => false
def fitAll : List PyData → Bool
  | [] => true
  | x :: xs => fit x && fitAll xs
end
theorem len_int {i : Int} (h1 : -1000000 ≤ i) (h2 : i ≤ 1000000) : (Str.ofString (toString i)).length ≤ 20 := by
  rcases Int.lt_or_le i 0 with h | h
  · obtain ⟨n, rfl⟩ := Int.eq_negSucc_of_lt_zero h
    have h3 := toString_length_le (v := ((n + 1 : Nat) : Int)) (k := 10) (by omega) (by decide) (by omega)
    have e : toString (Int.negSucc n) = "-" ++ toString ((n + 1 : Nat) : Int) := rfl
    rw [PyProof.Rows.ofString_length] at h3 ⊢
    rw [e, String.toList_append, List.length_append]
    have : "-".toList.length = 1 := rfl
    omega
  · exact Nat.le_trans (toString_length_le (k := 10) h (by decide) (by omega)) (by decide)
theorem len_repr {x : Str} (h : PyData.strOk x = true) (hl : x.length ≤ 8) : (reprText x).length ≤ 90 := by
  have := StrLaws.reprText_len x fun c hc => by
    unfold PyData.strOk at h
    rw [Array.all_eq_true'] at h
    have := of_decide_eq_true (h c (by simpa using hc))
    omega
  omega
theorem len_tuple (ts : List Str) : (tupleText ts).length ≤ piled ts + 3 := by
  unfold tupleText
  rw [strLen_append, strLen_append]
  have e1 : ((("(" : String) : Str)).length = 1 := rfl
  have e3 : (((if ts.length == 1 then ",)" else ")" : String) : Str)).length ≤ 2 := by split <;> decide
  rw [e1]
  by_cases h : ts = []
  · subst h
    have : (Str.join ", " []).length = 0 := rfl
    omega
  · have := join_length_add ts h
    omega
theorem piled_sum (ts : List Str) : piled ts = (ts.map (·.length)).sum + 2 * ts.length := by
  induction ts with
  | nil => rfl
  | cons a l ih => rw [piled_cons, ih, List.map_cons, List.sum_cons, List.length_cons]; omega
theorem len_list (ts : List Str) : (listText ts).length ≤ piled ts + 2 := by
  have h := textFrom_len_le ts 0 "["
  have e : (listText ts).length = (textFrom 0 "[" ts).length + 1 := by
    unfold listText
    rw [strLen_append]
    rfl
  have e1 : ((("[" : String) : Str)).length = 1 := rfl
  rw [piled_sum]
  omega
mutual
theorem shown_le : ∀ d : PyData, fit d = true → d.shown.length + 2 ≤ cst d ∧ d.showable = true ∧ d.hasDict = false
  | .none, _ => ⟨by simp only [PyData.shown, cst]; decide, by simp [PyData.showable], by simp [PyData.hasDict]⟩
  | .bool b, _ => ⟨by simp only [PyData.shown, cst]; cases b <;> decide, by simp [PyData.showable], by simp [PyData.hasDict]⟩
  | .int i, h => by
    simp only [fit, Bool.and_eq_true, decide_eq_true_eq] at h
    have := len_int h.1 h.2
    refine ⟨?_, ?_, by simp [PyData.hasDict]⟩
    · simp only [PyData.shown, cst]
      omega
    · simp only [PyData.showable, decide_eq_true_eq]
      have h1 : i.natAbs ≤ 1000000 := by omega
      have h2 : i.natAbs.log2 ≤ i.natAbs := Nat.log2_le_self _
      by_cases e : i.natAbs = 0
      · rw [e]; decide
      · exact (Nat.log2_lt e).mpr (Nat.lt_of_le_of_lt h1 (Nat.lt_of_lt_of_le (by decide : 1000000 < 2 ^ 20) (Nat.pow_le_pow_right (by decide) (by decide))))
  | .str x, h => by
    simp only [fit, Bool.and_eq_true, decide_eq_true_eq] at h
    have := len_repr h.1 h.2
    exact ⟨by simp only [PyData.shown, cst]; omega, by simp [PyData.showable], by simp [PyData.hasDict]⟩
  | .list xs, h => by
    obtain ⟨h1, h2, h3⟩ := shownAll_le xs (by simpa [fit] using h)
    have := len_list (PyData.shownAll xs)
    exact ⟨by simp only [PyData.shown, cst]; omega, by simpa [PyData.showable] using h2, by simpa [PyData.hasDict] using h3⟩
  | .dict _, h => by simp [fit] at h
  | .tuple xs, h => by
    obtain ⟨h1, h2, h3⟩ := shownAll_le xs (by simpa [fit] using h)
    have := len_tuple (PyData.shownAll xs)
    exact ⟨by simp only [PyData.shown, cst]; omega, by simpa [PyData.showable] using h2, by simpa [PyData.hasDict] using h3⟩
theorem shownAll_le : ∀ xs : List PyData, fitAll xs = true → piled (PyData.shownAll xs) ≤ cstAll xs ∧ PyData.showableAll xs = true ∧ PyData.hasDictAll xs = false
  | [], _ => ⟨by simp [PyData.shownAll, piled, cstAll], by simp [PyData.showableAll], by simp [PyData.hasDictAll]⟩
  | x :: xs, h => by
    simp only [fitAll, Bool.and_eq_true] at h
    obtain ⟨h1, h2, h3⟩ := shown_le x h.1
    obtain ⟨i1, i2, i3⟩ := shownAll_le xs h.2
    exact ⟨by simp only [PyData.shownAll, cstAll, piled_cons]; omega, by simp [PyData.showableAll, h2, i2], by simp [PyData.hasDictAll, h3, i3]⟩
end
theorem fitAll_of {l : List PyData} (h : ∀ x ∈ l, fit x = true) : fitAll l = true := by
  induction l with
  | nil => simp [fitAll]
  | cons a l ih => simp [fitAll, h a (by simp), ih fun x hx => h x (List.mem_cons_of_mem _ hx)]
theorem cstAll_le {l : List PyData} {m : PyData → Nat} (h : ∀ x ∈ l, cst x ≤ m x) : cstAll l ≤ (l.map m).sum := by
  induction l with
  | nil => simp [cstAll]
  | cons a l ih =>
    have h1 := h a (by simp)
    have h2 := ih fun x hx => h x (List.mem_cons_of_mem _ hx)
    simp only [cstAll, List.map_cons, List.sum_cons]
    omega
theorem cstAll_app (l m : List PyData) : cstAll (l ++ m) = cstAll l + cstAll m := by
  induction l with
  | nil => simp [cstAll]
  | cons a l ih => simp [cstAll, ih]; omega
theorem sum_mul (c : Nat) {l : List PyData} (f : PyData → Nat) : (l.map fun x => c * f x).sum = c * (l.map f).sum := by
  induction l with
  | nil => simp
  | cons a l ih => simp [ih, Nat.mul_add]
theorem Atom.fit {a : PyData} (h : Atom a) : Ov.fit a = true ∧ cst a = 100 := by
  rcases h with ⟨x, rfl, hx⟩ | ⟨i, rfl, h1, h2⟩
  · exact ⟨by simp [Ov.fit, lower_ok hx.2.2, hx.2.1], by simp [cst]⟩
  · exact ⟨by simp [Ov.fit, h1, h2], by simp [cst]⟩
theorem cst_atoms {l : List PyData} (h : ∀ a ∈ l, Atom a) : cstAll l = 100 * l.length := by
  induction l with
  | nil => simp [cstAll]
  | cons a l ih =>
    simp only [cstAll, (h a (by simp)).fit.2, ih fun x hx => h x (List.mem_cons_of_mem _ hx), List.length_cons]
    omega
theorem Tr.fit {k : Nat} {d : PyData} (h : Tr k d) : k ≤ 12 → Ov.fit d = true ∧ cst d ≤ 700 * size d := by
  induction h with
  | @node k h as hh hl hs ha hk ih =>
    intro h12
    have t : Tr (k + 1) (.tuple (.str h :: as)) := .node h as hh hl hs ha hk
    have hn := (heads_ok h hh).1
    refine ⟨?_, ?_⟩
    · simp only [Ov.fit, fitAll, lower_ok hn.2.2, decide_eq_true hn.2.1, Bool.true_and]
      rw [← List.take_append_drop (slots h) as]
      exact fitAll_of fun x hx => (List.mem_append.mp hx).elim (fun z => (ih x z (by omega)).1) fun z => (ha x z).fit.1
    · rw [size_node t h12 hh hs]
      have e1 := cstAll_app (as.take (slots h)) (as.drop (slots h))
      rw [List.take_append_drop, cst_atoms ha, List.length_drop] at e1
      have e2 := cstAll_le (m := fun x => 700 * size x) fun x hx => (ih x hx (by omega)).2
      rw [sum_mul] at e2
      simp only [cst, cstAll]
      omega
  | @ask k l t f hl hn he ht hf i1 i2 i3 =>
    intro h12
    have z : Tr (k + 1) (.tuple [.str "ask", .tuple (l.map Snt.d), t, f]) := .ask l t f hl hn he ht hf
    have hk : PyData.strOk "ask" = true := by decide +kernel
    have hk2 : ((Str.ofString "ask").length ≤ 8) := by decide +kernel
    have zf : Ov.fit f = true ∧ cst f ≤ 100 + (if isNone f = true then 0 else 700 * size f) := by
      by_cases e : f = .none
      · subst e; exact ⟨by simp [Ov.fit], by simp [cst]⟩
      · obtain ⟨a, b⟩ := i3 e (by omega)
        exact ⟨a, by rw [(hf e).tup, if_neg (by decide)]; omega⟩
    have zl : ∀ x ∈ l, Ov.fit x.d = true ∧ cst x.d ≤ 700 * size x.e + 105 := fun x hx => by
      obtain ⟨a, b⟩ := i1 x hx (by omega)
      have hnm := hn x hx
      exact ⟨by simp [Snt.d, Ov.fit, fitAll, lower_ok hnm.2.2, hnm.2.1, a], by simp only [Snt.d, cst, cstAll]; omega⟩
    obtain ⟨t1, t2⟩ := i2 (by omega)
    have fl : fitAll (l.map Snt.d) = true := fitAll_of fun x hx => by
      obtain ⟨y, hy, rfl⟩ := List.mem_map.mp hx
      exact (zl y hy).1
    have cl : ∀ l : List Snt, (∀ x ∈ l, cst x.d ≤ 700 * size x.e + 105) → cstAll (l.map Snt.d) ≤ 700 * (l.map fun x => size x.e).sum + 105 * l.length := by
      intro l
      induction l with
      | nil => intro _; simp [cstAll]
      | cons a l ih =>
        intro h
        have h1 := h a (by simp)
        have h2 := ih fun x hx => h x (List.mem_cons_of_mem _ hx)
        simp only [List.map_cons, cstAll, List.sum_cons, List.length_cons]
        omega
    have c1 := cl l fun x hx => (zl x hx).2
    refine ⟨by simp [Ov.fit, fitAll, hk, hk2, fl, t1, zf.1], ?_⟩
    rw [size_ask z h12]
    have z2 := zf.2
    simp only [cst, cstAll]
    by_cases e : isNone f = true
    · rw [if_pos e] at z2 ⊢
      omega
    · rw [if_neg e] at z2 ⊢
      omega
/-- what a path of a kid leads to -/
def pathOf : PyData → List Nat
  | .tuple l => l.filterMap fun x => match x with
    | .int i => some i.toNat
    | _ => none
  | _ => []
/-- a walk down -/
inductive Down : PyData → List Nat → PyData → Prop
  | here (d : PyData) : Down d [] d
  | step {xs : List PyData} {i : Nat} {e d : PyData} {is : List Nat} (h : xs[i]? = some e) (r : Down e is d) : Down (.tuple xs) (i :: is) d
def spPath : List AV → Sto → Po → Prop := fun as S P => ∃ (d e : PyData) (is : List Nat), as = [.dat d, .dat (.tuple (is.map fun i => PyData.int (i : Nat)))] ∧ Down d is e ∧ P (.dat e) S
theorem kids_down {k : Nat} {d : PyData} (h : Tr k d) : ∀ p ∈ kidsD d, ∃ is : List Nat, p.1 = .tuple (is.map fun i => PyData.int (i : Nat)) ∧ Down d is p.2 := by
  cases h with
  | node h as hh hl hs ha hk =>
    intro p hp
    rw [kids_node hh] at hp
    obtain ⟨i, hi, rfl⟩ := List.mem_map.mp hp
    rw [List.mem_range] at hi
    have hi2 : i < as.length := by omega
    refine ⟨[i + 1], by simp, .step (e := as.getD i .none) ?_ (.here _)⟩
    simp [List.getD_eq_getElem?_getD, hi2]
  | ask l t f hl hn he ht hf =>
    intro p hp
    rw [kids_ask] at hp
    rcases List.mem_append.mp hp with hp | hp
    · rcases List.mem_append.mp hp with hp | hp
      · obtain ⟨⟨x, i⟩, hx, rfl⟩ := List.mem_map.mp hp
        have hg := List.mem_zipIdx_iff_getElem?.mp hx
        refine ⟨[1, i, 1], by simp, .step (e := .tuple (l.map Snt.d)) rfl (.step (e := x.d) ?_ (.step (e := x.e) rfl (.here _)))⟩
        rw [List.getElem?_map, hg]
        rfl
      · rw [List.mem_singleton.mp hp]
        exact ⟨[2], by simp, .step (e := t) rfl (.here _)⟩
    · split at hp
      · cases hp
      · rw [List.mem_singleton.mp hp]
        exact ⟨[3], by simp, .step (e := f) rfl (.here _)⟩
def spGreatest : List AV → Sto → Po → Prop := fun as S P => as = [] ∧ ∀ d, Tr 10 d → size d = 25 → P (.dat d) S
theorem set_comm' {S : Sto} {D L : Addr} {a b : AO} (h : L ≠ D) : (S.set L a).set D b = (S.set D b).set L a := by
  funext x
  by_cases h1 : x = D
  · rw [h1, set_same, set_ne (Ne.symm h), set_same]
  · rw [set_ne h1]
    by_cases h2 : x = L
    · rw [h2, set_same, set_same]
    · rw [set_ne h2, set_ne h2, set_ne h1]
theorem size_le_kids {k : Nat} {d : PyData} (h : Tr k d) (hk : k ≤ 12) : ∀ p ∈ kidsD d, size p.2 ≤ size d := by
  intro p hp
  rw [size_kids h hk]
  have : ∀ (l : List PyData) (x : PyData), x ∈ l → size x ≤ (l.map size).sum := by
    intro l
    induction l with
    | nil => intro x hx; cases hx
    | cons a l ih =>
      intro x hx
      rw [List.map_cons, List.sum_cons]
      rcases List.mem_cons.mp hx with e | e
      · subst e; omega
      · have := ih x e; omega
  have := this ((kidsD d).map (·.2)) p.2 (List.mem_map.mpr ⟨p, hp, rfl⟩)
  omega
theorem dn : ([] : List AV) = dats [] := rfl
theorem dc {as : List AV} {ds : List PyData} {d : PyData} (h : as = dats ds) : AV.dat d :: as = dats (d :: ds) := by subst h; rfl
theorem dl {ds : List PyData} (h : Nat.ble ds.length 100000 = true) : ds.length ≤ 100000 := Nat.le_of_ble_eq_true h
theorem path_fit {l : List Nat} (h : ∀ i ∈ l, i ≤ 1000) : fitAll (l.map fun i => PyData.int (i : Nat)) = true ∧ cstAll (l.map fun i => PyData.int (i : Nat)) = 100 * l.length ∧ PyData.depthAll (l.map fun i => PyData.int (i : Nat)) = 0 := by
  induction l with
  | nil => simp [fitAll, cstAll, PyData.depthAll]
  | cons a l ih =>
    obtain ⟨i1, i2, i3⟩ := ih fun i hi => h i (List.mem_cons_of_mem _ hi)
    have := h a (by simp)
    refine ⟨?_, ?_, ?_⟩
    · simp [fitAll, fit, i1]; omega
    · simp only [List.map_cons, cstAll, cst, i2, List.length_cons]; omega
    · simp [PyData.depthAll, PyData.depth, i3]
theorem kids_path {k : Nat} {d : PyData} (h : Tr k d) : ∀ p ∈ kidsD d, ∃ is : List Nat, p.1 = .tuple (is.map fun i => PyData.int (i : Nat)) ∧ is.length ≤ 3 ∧ ∀ i ∈ is, i ≤ 1000 := by
  cases h with
  | node h as hh hl hs ha hk =>
    intro p hp
    rw [kids_node hh] at hp
    obtain ⟨i, hi, rfl⟩ := List.mem_map.mp hp
    rw [List.mem_range] at hi
    exact ⟨[i + 1], by simp, by simp, fun j hj => by rw [List.mem_singleton.mp hj]; omega⟩
  | ask l t f hl hn he ht hf =>
    intro p hp
    rw [kids_ask] at hp
    rcases List.mem_append.mp hp with hp | hp
    · rcases List.mem_append.mp hp with hp | hp
      · obtain ⟨⟨x, i⟩, hx, rfl⟩ := List.mem_map.mp hp
        have hg := List.mem_zipIdx_iff_getElem?.mp hx
        have hi : i < l.length := (List.getElem?_eq_some_iff.mp hg).1
        exact ⟨[1, i, 1], by simp, by simp, fun j hj => by simp at hj; omega⟩
      · rw [List.mem_singleton.mp hp]
        exact ⟨[2], by simp, by simp, fun j hj => by simp at hj; omega⟩
    · split at hp
      · cases hp
      · rw [List.mem_singleton.mp hp]
        exact ⟨[3], by simp, by simp, fun j hj => by simp at hj; omega⟩
theorem depth_all {ds : List PyData} {n : Nat} (h : ∀ x ∈ ds, x.depth ≤ n) : PyData.depthAll ds ≤ n := by
  induction ds with
  | nil => simp [PyData.depthAll]
  | cons a l ih =>
    have h1 := h a (by simp)
    have h2 := ih fun x hx => h x (List.mem_cons_of_mem _ hx)
    simp only [PyData.depthAll]
    omega
theorem kids_shown {k : Nat} {d : PyData} (h : Tr k d) (hk : k ≤ 12) (hz : size d ≤ 10000) : (PyData.tuple ((kidsD d).map kpD)).showable = true ∧ (PyData.tuple ((kidsD d).map kpD)).hasDict = false ∧ (PyData.tuple ((kidsD d).map kpD)).depth ≤ 60 ∧ (PyData.tuple ((kidsD d).map kpD)).shown.length ≤ 10000000 := by
  have one : ∀ p ∈ kidsD d, fit (kpD p) = true ∧ cst (kpD p) ≤ 700 * size p.2 + 310 ∧ (kpD p).depth ≤ 40 := fun p hp => by
    obtain ⟨is, e, hl, hi⟩ := kids_path h p hp
    obtain ⟨q1, q2, q3⟩ := path_fit hi
    have t := kids_tr' h p hp
    obtain ⟨r1, r2⟩ := t.fit hk
    have r3 := t.lay.2
    unfold kpD
    rw [e]
    refine ⟨by simp [fit, fitAll, q1, r1], ?_, ?_⟩
    · simp only [cst, cstAll, q2]; omega
    · simp only [PyData.depth, PyData.depthAll, q3]; omega
  have hf : fitAll ((kidsD d).map kpD) = true := fitAll_of fun x hx => by
    obtain ⟨p, hp, rfl⟩ := List.mem_map.mp hx
    exact (one p hp).1
  have hc : ∀ l : List (PyData × PyData), (∀ p ∈ l, cst (kpD p) ≤ 700 * size p.2 + 310) → cstAll (l.map kpD) ≤ 700 * ((l.map (·.2)).map size).sum + 310 * l.length := by
    intro l
    induction l with
    | nil => intro _; simp [cstAll]
    | cons a l ih =>
      intro h
      have h1 := h a (by simp)
      have h2 := ih fun x hx => h x (List.mem_cons_of_mem _ hx)
      simp only [List.map_cons, cstAll, List.sum_cons, List.length_cons]
      omega
  have hc1 := hc _ fun p hp => (one p hp).2.1
  have hs := size_kids h hk
  have hkl := kids_len h
  obtain ⟨s1, s2, s3⟩ := shown_le (.tuple ((kidsD d).map kpD)) (by simp only [fit]; exact hf)
  simp only [cst] at s1
  refine ⟨s2, s3, ?_, by omega⟩
  have := depth_all (ds := (kidsD d).map kpD) (n := 40) fun x hx => by
    obtain ⟨p, hp, rfl⟩ := List.mem_map.mp hx
    exact (one p hp).2.2
  simp only [PyData.depth]
  omega
theorem log_small {n : Nat} (h : n ≤ 1000000) : ((n : Int)).natAbs.log2 < 1920 := by
  have e : ((n : Int)).natAbs = n := rfl
  rw [e]
  by_cases h0 : n = 0
  · subst h0; decide
  · exact (Nat.log2_lt h0).mpr (Nat.lt_of_le_of_lt h (Nat.lt_of_lt_of_le (by decide : 1000000 < 2 ^ 20) (Nat.pow_le_pow_right (by decide) (by decide))))
theorem Df.fnG {P : Program} {w : World} {K : PySem.W.Frag} {mg : Str → Option Value} {base : Heap} {x : Str} {st : Stmt} {f : Addr} {fd : FuncData} {N ps : List Str} {k : Nat} {sp : Sp} (F : Df K mg x ps st f fd) (S : FnScope N ps (defScope st)) (len : ∀ vs H Q E, sp vs H Q E → vs.length = ps.length)
    (hbody : ∀ (cdv : Value) (A : Around) (out : List Env) (s : Shared) (H : Hp) (vs : List V) (Q : VK) (E : XK), A.guards = some [] → Room k (A.deeper (envOfC x (defScope st) s.heap.objs.size f cdv)) → sp vs H Q E →
      ∃ t, PSs (cxOf CX0 P w K mg base N x (defScope st) f cdv A out s H E).nox (defBody st) t ∧ t { nx := fun _ H' => Q .non H', rt := Q } (L2.start N vs) H) : FnG P w K mg base (k + 1) f fd ps sp := by
  obtain ⟨⟨⟨oc, od, kV, doc, pm, an, cdv, ct, osl, rfl, lk, hcd⟩, kp⟩, hm, hb⟩ := F
  exact fn_g lk hcd S len fun A out s H vs Q E hG hr hsp => let ⟨t, h, q⟩ := hbody cdv A out s H vs Q E hG hr hsp; ⟨t, h.nox, q⟩
/-! the greatest body -/
def leastD : PyData := .tuple [.str "most", .str "size", .int 3]
def gTestD : PyData := .tuple [.str "both", .tuple [.str "either", leastD, leastD], .tuple [.str "not", .tuple [.str "either", leastD, leastD]]]
def gParD : PyData := .tuple [.str "param", .str "size"]
def gOwnD : PyData := .tuple [.str "if", .tuple [.str "not", leastD], gParD, gParD]
def gSentD : PyData := .tuple [.str "if", .tuple [.str "both", leastD, leastD], gOwnD, gParD]
def gTurnD : PyData := .tuple [.str "if", .tuple [.str "lacks"], .tuple [.str "none"], .tuple [.str "param", .str "inner"]]
def greatD : PyData := .tuple [.str "if", gTestD, .tuple [.str "ask", .tuple [.tuple [.str "size", gSentD]], gTurnD, .none], .tuple [.str "none"]]
theorem great_size : size greatD = 25 := by decide +kernel
theorem great_wd : WdOk [("size", "number")] "number" := ⟨by show 1 ≤ 3; decide, by simp, fun p hp => by
  rw [List.mem_singleton.mp hp]
  exact ⟨by decide +kernel, by decide +kernel, .inl rfl⟩, .inl rfl⟩
theorem great_ok : WrapOk [("size", "number")] "number" 1 greatD := by
  have sp : ∀ inner, Spoken [("size", "number")] inner "size" "number" := fun inner => .inl (by simp)
  have lt : ∀ inner k, TestOk [("size", "number")] inner k leastD := fun inner k => .most _ _ (sp inner) (by decide) (by decide)
  have pr : ExprOk [("size", "number")] "number" none true 0 gParD := .leaf _ (.param _ (sp none))
  refine .ite _ _ _ (.both _ _ (.either (k := 1) _ _ (lt _ _) (lt _ _)) (.not (k := 1) _ (.either _ _ (lt _ _) (lt _ _)))) (.ask _ (.mk [⟨"size", "number", gSentD⟩] _ _ ⟨by simp, fun x hx => ?_⟩ ?_ (.inl rfl))) (.leaf _ (.none rfl))
  · rw [List.mem_singleton.mp hx]
    exact ⟨by simp, .ite _ _ _ (.both (k := 2) _ _ (lt _ _) (lt _ _)) (.ite _ _ _ (.not (k := 2) _ (lt _ _)) pr pr) (pr.up (by decide))⟩
  · exact .ite _ _ _ (.lacks _ rfl) (.leaf _ (.none rfl)) (.leaf _ (.param _ (.inr ⟨rfl, rfl⟩)))
theorem great_tr : Tr 10 greatD := ((WrapOk.tr great_wd great_ok (by decide)).1).up (by decide)
theorem pe_c0 {X : Cx} {k j : Nat} {x : Str} {sp : Sp} {p pos : Pos} (c : Cal X.prog X.w X.K X.mg X.base k x sp) (hr : Room j X.A) (hk : k ≤ j) (hg : Gl X x) (hdb : (x == ("__debug__" : Str)) = false := by decide) : PE X (.Call (.Name x p) [] [] pos) (tCall sp [] E0 tNil) := by
  obtain ⟨f, fd, ps, F, hm, kp, b⟩ := c.ex
  exact pe_call0 F (hr.mono hk) hg hm kp b .nil pass0 hdb
theorem HookOk.wd {kind outs : Str} {ps qs : List Pm} (h : HookOk kind ps qs outs) : WdOk ((ps ++ qs).map Pm.pr) outs := by
  refine ⟨by rw [List.length_map, List.length_append]; exact h.len, ?_, fun p hp => ?_, h.outs⟩
  · rw [List.map_map]
    exact h.nd
  · obtain ⟨x, hx, rfl⟩ := List.mem_map.mp hp
    exact ⟨(h.nm x hx).1, (h.nm x hx).2, h.st x hx⟩
end Ov
namespace Ov
open PySem PySem.Spec PyProof.Rows L2
/-! ## instances of the module's classes -/
def fldA (fs : List (Str × AV)) (f : Str) : Option AV := fs.lookup f
def putFA (f : Str) (v : AV) : List (Str × AV) → List (Str × AV)
  | [] => [(f, v)]
  | (g, x) :: r => if g = f then (g, v) :: r else (g, x) :: putFA f v r
section
variable {K : PySem.W.Frag} {S : Sto} {H : Hp}
theorem RFs.get {f : Str} : ∀ {fs : List (Str × V)} {as : List (Str × AV)} {c : AV}, RFs K S H fs as → fldA as f = some c → ∃ v, fs.lookup f = some v ∧ RA K S H v c
  | _, _, _, .nil, e => by cases e
  | _, _, c, @RFs.cons _ _ _ k v a vs as r t, e => by
    unfold fldA at e
    rw [List.lookup_cons] at e
    rw [List.lookup_cons]
    by_cases h : (f == k) = true
    · rw [h] at e ⊢
      cases e
      exact ⟨v, rfl, r⟩
    · have h' : (f == k) = false := by simpa using h
      rw [h'] at e ⊢
      exact RFs.get t e
theorem RFs.put {f : Str} {w : V} {c : AV} (rc : RA K S H w c) : ∀ {fs : List (Str × V)} {as : List (Str × AV)}, RFs K S H fs as → RFs K S H (putF f w fs) (putFA f c as)
  | _, _, .nil => .cons rc .nil
  | _, _, @RFs.cons _ _ _ k v a vs as r t => by
    show RFs K S H (if k = f then (k, w) :: vs else (k, v) :: putF f w vs) (if k = f then (k, c) :: as else (k, a) :: putFA f c as)
    by_cases h : k = f
    · rw [if_pos h, if_pos h]; exact .cons rc t
    · rw [if_neg h, if_neg h]; exact .cons r (RFs.put rc t)
theorem RFs.len : ∀ {fs : List (Str × V)} {as : List (Str × AV)}, RFs K S H fs as → fs.length = as.length
  | _, _, .nil => rfl
  | _, _, .cons _ t => congrArg (· + 1) (RFs.len t)
end
section
variable {K : PySem.W.Frag} {S : Sto} {δ : Dl} {P : Po} {R : Rr} {ta tv : TE} {f : Str}
theorem we_fld (h : WE K ta δ S fun a S1 => ∃ q C fs c, a = .own q ∧ S1 q = some (.ins C fs) ∧ Cls K C ∧ NoAttr K C f ∧ fldA fs f = some c ∧ P c S1) : WE K (tFld K ta f) δ S P := fun σ H Q rs s k =>
  h σ H _ rs s fun x H1 a S1 g1 r1 ⟨q, C, as, c, e1, e2, hC, hN, e3, p⟩ => by
    subst e1
    cases r1
    obtain ⟨dx, fs, q1, q2⟩ := g1.rs q _ e2
    obtain ⟨v, v1, v2⟩ := q2.get e3
    exact ⟨q, C, dx, fs, v, rfl, q1, hC, hN, v1, k v H1 c S1 g1 v2 p⟩
theorem ws_fld (h : WE K tv δ S fun c S1 => WE K ta δ S1 fun a S2 => ∃ q C fs, a = .own q ∧ S2 q = some (.ins C fs) ∧ Cls K C ∧ NoAttr K C f ∧ fs.length < 1000 ∧ R.nx δ (S2.set q (.ins C (putFA f c fs)))) : WS K (sFld K ta tv f) δ S R := fun σ H D rs s fi =>
  h σ H _ rs s fun y H1 c S1 g1 r1 w => w σ H1 _ g1.rs (s.go g1) fun x H2 a S2 g2 r2 ⟨q, C, as, e1, e2, hC, hN, hl, p⟩ => by
    subst e1
    cases r2
    obtain ⟨dx, fs, q1, q2⟩ := g2.rs q _ e2
    have g3 : Go K S2 H2 (S2.set q (.ins C (putFA f c as))) (upd H2 q (.ins C dx (putF f y fs))) :=
      Go.put g2.rs (by rw [e2]; rfl) fun S' H' e z => ⟨dx, _, z, RFs.put ((r1.go g2).up e) (q2.up e)⟩
    refine ⟨q, C, dx, fs, rfl, q1, hC, hN, by rw [q2.len]; exact hl, ?_⟩
    have g := (g1.trans g2).trans g3
    exact fi.nx σ _ δ _ g (s.go g) p
/-- a new instance, then its __init__ -/
theorem we_makeK {C : Addr} {n m N : Nat} {spec : List AV → Sto → Po → Prop} {gV : List V → List V → List V} {gA : AV → List AV → List AV → List AV} {E : XK} {t tk : TA}
    (hg : ∀ {S : Sto} {H : Hp} {x : Addr} {vs zs : List V} {as bs : List AV}, RAs K S H vs as → RAs K S H zs bs → RAs K S H (gV (.ref x :: vs) zs) (gA (.own x) as bs))
    (h : WA K t δ S fun as S1 => WA K tk δ S1 fun bs S2 => as.length = n ∧ bs.length = m ∧ ∀ x, S2 x = none → (gA (.own x) as bs).length = N ∧ spec (gA (.own x) as bs) (S2.set x (.ins C [])) fun v S3 => v = .dat .none ∧ P (.own x) S3) : WE K (tMakeK C n m (SpA K N spec) gV E t tk) δ S P := fun σ H Q rs s k =>
  h σ H _ rs s fun vs H1 as S1 g1 r1 w => w σ H1 _ g1.rs (s.go g1) fun zs H2 bs S2 g2 r2 ⟨hn, hm, hx⟩ => by
    refine ⟨by rw [r1.len, hn], by rw [r2.len, hm], fun x dx n1 n2 ne => ?_⟩
    have gd := Go.new (o := .own x) g2.rs n2
    have nx : upd H2 dx (.own x) x = none := by rw [upd_ne (Ne.symm ne)]; exact n1
    have gx : Go K S2 (upd H2 dx (.own x)) (S2.set x (.ins C [])) (upd (upd H2 dx (.own x)) x (.ins C dx [])) := Go.own gd.rs nx fun S' H' e z => ⟨dx, [], z, .nil⟩
    have gg := gd.trans gx
    obtain ⟨hl, sp⟩ := hx x (g2.rs.none_of n1)
    have ra := hg (x := x) ((r1.up g2.ex).up gg.ex) (r2.up gg.ex)
    refine ⟨by rw [ra.len, hl], _, _, _, gx.rs, ra, sp, fun v H' a S' g r p => ?_⟩
    obtain ⟨e, p⟩ := p
    subst e
    cases r
    exact ⟨rfl, k _ H' (.own x) S' (((g1.trans g2).trans gg).trans g) rfl p⟩
end
/-! ## isinstance, signs of texts, any -/
def tyD : PyData → String
  | .none => "NoneType"
  | .bool _ => "bool"
  | .int _ => "int"
  | .str _ => "str"
  | .list _ => "list"
  | .tuple _ => "tuple"
  | .dict _ => "dict"
theorem ty_of {K : PySem.W.Frag} {S : Sto} {H : Hp} {v : V} {a : AV} {d : PyData} (n : Nw S a d) (rs : RS K S H) (r : RA K S H v a) : TyX K H v (.type (tyD d)) := by
  have h := n.dq rs r
  cases h with
  | non => exact .base .non
  | bl b => exact .base (.bl b)
  | int i => exact .base (.int i)
  | str x => exact .base (.str x)
  | lst h1 h2 => exact .base (.lst h1)
  | tup h1 h2 =>
    rcases h1 with (h | ⟨o, h⟩) | ⟨o, its, m, h, c, _⟩
    · exact .base (.tup h)
    · exact .fTuple h
    · exact .kTuple h c
  | dct h1 h2 => exact .base (.dK h1)
section
variable {K : PySem.W.Frag} {S : Sto} {δ : Dl} {P : Po} {to : TE} {a : AV} {d : PyData}
theorem wc_isi {n : String} {b : Bool} (na : Nw S a d) (h : kitB (tyD d) n = some b) (p : P (.dat (.bool b)) S) : WC K (rIsi K) [a, .ty n] S P := fun xs H Q rs ra k => by
  cases ra with
  | cons r1 r2 =>
    cases r2 with
    | cons r3 r4 =>
      cases r4
      cases r3
      exact ⟨_, _, _, _, b, rfl, .ty n, ty_of na rs r1, kit_ty h, fin_d rs k (Dq.bl b) p⟩
theorem we_sm0 {g : Str → Bool} (h : WE K to δ S fun a S1 => ∃ z, a = .dat (.str z) ∧ P (.dat (.bool (g z))) S1) : WE K (tBM0 K "str" (fun x xs H Q => ∃ a, x = .str a ∧ xs = [] ∧ True ∧ Q (.bl (g a)) H) to) δ S P := fun σ H Q rs s k =>
  h σ H _ rs s fun x H1 a S1 g1 r1 ⟨z, e, p⟩ => by
    subst e
    cases r1
    exact ⟨rfl, z, rfl, rfl, trivial, k _ H1 (.dat (.bool (g z))) S1 g1 (Dq.bl _) p⟩
theorem dq_bools_inv {H : Hp} : ∀ {l : List Bool} {xs : List V}, DqAll K H xs (l.map PyData.bool) → xs = l.map V.bl
  | [], _, h => by cases h; rfl
  | c :: l, _, h => by
    cases h with
    | cons h1 h2 =>
      cases h1
      rw [dq_bools_inv h2]
      rfl
theorem wc_any {bs : List Bool} (na : Nw S a (.list (bs.map PyData.bool))) (p : P (.dat (.bool (bs.any id))) S) : WC K (rAny K) [a] S P := fun xs H Q rs ra k => by
  cases ra with
  | cons r1 r2 =>
    cases r2
    obtain ⟨p1, ys, rfl, h1, h2⟩ := na.list rs r1
    have := dq_bools_inv h2
    subst this
    exact ⟨p1, bs, rfl, SqL.of h1, fin_d rs k (Dq.bl _) p⟩
theorem call_anyK {X : Cx} (hc : X.calm = true) (h : X.K = K := by rfl) : CallR X (.builtin "any") (rAny K) := h ▸ cr_any hc
theorem call_isiK' {X : Cx} (h : X.K = K := by rfl) : CallR X (.builtin "isinstance") (rIsi K) := h ▸ call_isi
/-- the module's own tuple of texts -/
theorem we_tupK {p : Addr} {l : List Str} {its : Array Value} {o : Obj} {n : Nat} (h1 : K.lookup p = some o) (h2 : o.cls = .type "tuple") (h3 : o.data = .seq its n) (h4 : its.size ≤ sizeLine) (h5 : Vals (l.map V.str) its.toList) (q : P (.dat (.tuple (l.map PyData.str))) S) : WE K (tC (.ref p)) δ S P :=
  we_dat (fun H => .tup (.inr ⟨o, its, n, h1, h2, h3, h4, h5⟩) (dq_strs l)) q
end
theorem abc_all : ∀ c : Fin 26, Unicode.isAlpha (c.val + 97) = true ∧ Unicode.isLower (c.val + 97) = true ∧ (Unicode.isUpper (c.val + 97) || Unicode.isTitle (c.val + 97)) = false := by decide +kernel
theorem abc {c : Nat} (h : lower c) : Unicode.isAlpha c = true ∧ Unicode.isLower c = true ∧ (Unicode.isUpper c || Unicode.isTitle c) = false := by
  unfold lower at h
  have := abc_all ⟨c - 97, by omega⟩
  have e : c - 97 + 97 = c := by omega
  simpa only [e] using this
theorem lower_mem {z : Str} (h : NameOk z) (i : Nat) (hi : i < z.cps.size) : lower z.cps[i] := h.2.2 _ (by unfold cs; exact List.getElem_mem (by simpa using hi))
theorem name_isascii {z : Str} (h : NameOk z) : Txt.isascii z = true := by
  unfold Txt.isascii
  rw [Array.all_eq_true]
  intro i hi
  have := lower_mem h i hi
  unfold lower at this
  exact decide_eq_true (by omega)
theorem name_isalpha {z : Str} (h : NameOk z) : Txt.isalpha z = true := by
  unfold Txt.isalpha
  rw [Bool.and_eq_true, Array.all_eq_true]
  exact ⟨decide_eq_true h.1, fun i hi => (abc (lower_mem h i hi)).1⟩
theorem name_islower {z : Str} (h : NameOk z) : Txt.islower z = true := by
  unfold Txt.islower
  rw [Bool.and_eq_true]
  have h0 : 0 < z.cps.size := h.1
  refine ⟨Array.any_eq_true.mpr ⟨0, h0, (abc (lower_mem h 0 h0)).2.1⟩, ?_⟩
  rw [Bool.not_eq_true']
  rw [Array.any_eq_false]
  intro i hi
  rw [(abc (lower_mem h i hi)).2.2]
  decide
/-! ## the words of the package -/
def isNameS (z : Str) : Bool := decide (z.length ≤ 8) && (Txt.isascii z && (Txt.isalpha z && Txt.islower z))
def isNameD : PyData → Bool
  | .str z => isNameS z
  | _ => false
def isIntD : PyData → Bool
  | .int _ => true
  | _ => false
theorem name_is {z : Str} (h : NameOk z) : isNameS z = true := by
  unfold isNameS
  rw [name_isascii h, name_isalpha h, name_islower h, decide_eq_true h.2.1]
  rfl
def spIsName : List AV → Sto → Po → Prop := fun as S P => ∃ d, as = [.dat d] ∧ shortD d ∧ P (.dat (.bool (isNameD d))) S
def spIsInt : List AV → Sto → Po → Prop := fun as S P => ∃ d, as = [.dat d] ∧ P (.dat (.bool (isIntD d))) S
/-- whether a thing is a value of a sort -/
def hasSortD (d : PyData) (s : Str) : Bool := if s = "number" then isIntD d else isNameD d
def spHasSort : List AV → Sto → Po → Prop := fun as S P => ∃ d s, as = [.dat d, .dat (.str s)] ∧ shortD d ∧ P (.dat (.bool (hasSortD d s))) S
def isIntB : PyData → Bool
  | .int _ => true
  | .bool _ => true
  | _ => false
def isBoolB : PyData → Bool
  | .bool _ => true
  | _ => false
def isStrB : PyData → Bool
  | .str _ => true
  | _ => false
theorem kit_int (d : PyData) : kitB (tyD d) "int" = some (isIntB d) := by cases d <;> (simp only [tyD, isIntB, isBoolB, isStrB]; decide +kernel)
theorem kit_bool (d : PyData) : kitB (tyD d) "bool" = some (isBoolB d) := by cases d <;> (simp only [tyD, isIntB, isBoolB, isStrB]; decide +kernel)
theorem kit_str (d : PyData) : kitB (tyD d) "str" = some (isStrB d) := by cases d <;> (simp only [tyD, isIntB, isBoolB, isStrB]; decide +kernel)
/-! triples that are told -/
/-- a parameter as it is told: the default left out or not -/
def Told (p : Pm) (d : PyData) : Prop := d = p.d ∨ (p.v = .none ∧ d = .tuple [.str p.n, .str p.s])
def spTriple : List AV → Sto → Po → Prop := fun as S P => ∃ d p, as = [.dat d] ∧ Told p d ∧ P (.dat p.d) S
/-! ## hooks -/
def hookF (name kind gives : Str) (ps qs : List Pm) : List (Str × AV) := [("name", .dat (.str name)), ("kind", .dat (.str kind)), ("gives", .dat (.str gives)), ("params", .dat (.tuple (ps.map Pm.d))), ("only", .dat (.tuple (qs.map Pm.d))), ("names", .dat (.tuple ((ps ++ qs).map fun p => PyData.str p.n)))]
structure HookC (K : PySem.W.Frag) (C : Addr) : Prop where
  cl : Cls K C
  n1 : NoAttr K C "name"
  n2 : NoAttr K C "kind"
  n3 : NoAttr K C "gives"
  n4 : NoAttr K C "params"
  n5 : NoAttr K C "only"
  n6 : NoAttr K C "names"
theorem h_kn : ¬ (Str.ofString "kind" = Str.ofString "name") := by decide +kernel
theorem fld_hook {name kind gives : Str} {ps qs : List Pm} : fldA (hookF name kind gives ps qs) "name" = some (.dat (.str name)) ∧ fldA (hookF name kind gives ps qs) "kind" = some (.dat (.str kind)) ∧ fldA (hookF name kind gives ps qs) "gives" = some (.dat (.str gives)) ∧ fldA (hookF name kind gives ps qs) "params" = some (.dat (.tuple (ps.map Pm.d))) ∧ fldA (hookF name kind gives ps qs) "only" = some (.dat (.tuple (qs.map Pm.d))) ∧ fldA (hookF name kind gives ps qs) "names" = some (.dat (.tuple ((ps ++ qs).map fun p => PyData.str p.n))) := by
  have a1 : (Str.ofString "name" == Str.ofString "name") = true := by decide +kernel
  have a2 : (Str.ofString "kind" == Str.ofString "name") = false := by decide +kernel
  have a3 : (Str.ofString "gives" == Str.ofString "name") = false := by decide +kernel
  have a4 : (Str.ofString "gives" == Str.ofString "kind") = false := by decide +kernel
  have a5 : (Str.ofString "params" == Str.ofString "name") = false := by decide +kernel
  have a6 : (Str.ofString "params" == Str.ofString "kind") = false := by decide +kernel
  have a7 : (Str.ofString "params" == Str.ofString "gives") = false := by decide +kernel
  have b1 : (Str.ofString "only" == Str.ofString "name") = false := by decide +kernel
  have b2 : (Str.ofString "only" == Str.ofString "kind") = false := by decide +kernel
  have b3 : (Str.ofString "only" == Str.ofString "gives") = false := by decide +kernel
  have b4 : (Str.ofString "only" == Str.ofString "params") = false := by decide +kernel
  have c1 : (Str.ofString "names" == Str.ofString "name") = false := by decide +kernel
  have c2 : (Str.ofString "names" == Str.ofString "kind") = false := by decide +kernel
  have c3 : (Str.ofString "names" == Str.ofString "gives") = false := by decide +kernel
  have c4 : (Str.ofString "names" == Str.ofString "params") = false := by decide +kernel
  have c5 : (Str.ofString "names" == Str.ofString "only") = false := by decide +kernel
  have d1 : ∀ z : Str, (z == z) = true := fun z => by simp
  unfold fldA hookF
  refine ⟨?_, ?_, ?_, ?_, ?_, ?_⟩ <;> simp only [List.lookup_cons, a1, a2, a3, a4, a5, a6, a7, b1, b2, b3, b4, c1, c2, c3, c4, c5, d1]
/-- a written tuple of texts -/
def TupK (K : PySem.W.Frag) (p : Addr) (l : List Str) : Prop := ∃ (o : Obj) (its : Array Value) (n : Nat), K.lookup p = some o ∧ o.cls = .type "tuple" ∧ o.data = .seq its n ∧ its.size ≤ sizeLine ∧ Vals (l.map V.str) its.toList
theorem we_tupK' {K : PySem.W.Frag} {S : Sto} {δ : Dl} {P : Po} {p : Addr} {l : List Str} (h : TupK K p l) (q : P (.dat (.tuple (l.map PyData.str))) S) : WE K (tC (.ref p)) δ S P :=
  let ⟨_, _, _, h1, h2, h3, h4, h5⟩ := h
  we_tupK h1 h2 h3 h4 h5 q
def sortsT : List Str := ["number", "word"].map Str.ofString
def kindsT : List Str := ["first", "through", "each"].map Str.ofString
def keptT : List Str := ["if", "then", "else", "not", "both", "and", "either", "or", "is", "none", "fail", "ask", "with", "giving", "failing", "inner", "unanswered"].map Str.ofString
theorem kept_bad : ∀ x ∈ keptT, x ∈ badWords := by decide +kernel
theorem sort_in {s : Str} (h : sortOk s) : s ∈ sortsT := by rcases h with rfl | rfl <;> decide +kernel
theorem kind_in {s : Str} (h : kindOk s) : s ∈ kindsT := by rcases h with rfl | rfl | rfl <;> decide +kernel
theorem val_sort {s : Str} {v : PyData} (h : valOk s v) : hasSortD v s = true := by
  unfold hasSortD
  rcases h with ⟨rfl, w, rfl, hw⟩ | ⟨rfl, k, rfl, _⟩
  · rw [if_neg (fun e => num_ne_word e.symm)]
    exact name_is hw
  · rw [if_pos rfl]
    rfl
def spFault (C : Addr) : List AV → Sto → Po → Prop := fun as S P => ∃ (q : Addr) (name kind gives : Str) (ps qs : List Pm) (i : Nat), as = [.own q, .dat (.int i)] ∧ HookOk kind ps qs gives ∧ i < ps.length + qs.length ∧ S q = some (.ins C (hookF name kind gives ps qs)) ∧ P (.dat .none) S
def spCheck (C : Addr) : List AV → Sto → Po → Prop := fun as S P => ∃ (q : Addr) (name kind gives : Str) (ps qs : List Pm), as = [.own q] ∧ HookOk kind ps qs gives ∧ NameOk name ∧ kindOk kind ∧ S q = some (.ins C (hookF name kind gives ps qs)) ∧ P (.dat .none) S
theorem not_take {l : List Str} (h : l.Nodup) {i : Nat} (hi : i < l.length) : l[i] ∉ l.take i := fun hm => by
  obtain ⟨j, hj, e⟩ := List.getElem_of_mem hm
  rw [List.length_take] at hj
  rw [List.getElem_take] at e
  have := (List.getElem_inj h).mp e
  omega
theorem nn {v : PyData} (h : isNone v = true) : v = .none := by cases v <;> first | rfl | exact absurd h (by simp [isNone])
/-! ## a list or a tuple that is walked -/
def iSeqA (K : PySem.W.Frag) (te : TE) : TI := fun σ H R => iList K te σ H R ∨ iTup K te σ H R
theorem pi_seqK {X : Cx} (K : PySem.W.Frag) {tg e : Expr} {te : TE} (he : PE X e te) (h : X.K = K := by rfl) : PI X tg e (iSeqA K te) := h ▸ pi_or (pi_list he) (pi_tup he)
theorem wi_seqL {K : PySem.W.Frag} {te : TE} {δ : Dl} {S : Sto} {P : Nat → (Nat → PyData) → Sto → Prop} (h : WE K te δ S fun a S1 => ∃ ds, a = .dat (.list ds) ∧ P ds.length (fun i => ds.getD i .none) S1) : WI K (iSeqA K te) δ S P := fun σ H R rs s k => .inl (wi_list h σ H R rs s k)
theorem wi_seqT {K : PySem.W.Frag} {te : TE} {δ : Dl} {S : Sto} {P : Nat → (Nat → PyData) → Sto → Prop} (h : WE K te δ S fun a S1 => ∃ ds, a = .dat (.tuple ds) ∧ P ds.length (fun i => ds.getD i .none) S1) : WI K (iSeqA K te) δ S P := fun σ H R rs s k => .inr (wi_tup h σ H R rs s k)
def SeqOf (a : AV) (ds : List PyData) : Prop := a = .dat (.list ds) ∨ a = .dat (.tuple ds)
theorem wi_seq {K : PySem.W.Frag} {te : TE} {δ : Dl} {S : Sto} {P : Nat → (Nat → PyData) → Sto → Prop} {a : AV} {ds : List PyData} (q : SeqOf a ds) (h : ∀ Q : Po, Q a S → WE K te δ S Q) (p : P ds.length (fun i => ds.getD i .none) S) : WI K (iSeqA K te) δ S P := by
  rcases q with rfl | rfl
  · exact wi_seqL (h _ ⟨ds, rfl, p⟩)
  · exact wi_seqT (h _ ⟨ds, rfl, p⟩)
/-- told one by one -/
def ToldAll (ps : List Pm) (ds : List PyData) : Prop := ds.length = ps.length ∧ ∀ (i : Nat) (p : Pm) (d : PyData), ps[i]? = some p → ds[i]? = some d → Told p d
def spHookInit (C : Addr) : List AV → Sto → Po → Prop := fun as S P => ∃ (q : Addr) (name kind gives : Str) (ps qs : List Pm) (a b : AV) (ds es : List PyData), as = [.own q, .dat (.str name), .dat (.str kind), a, b, .dat (.str gives)] ∧ SeqOf a ds ∧ SeqOf b es ∧ ToldAll ps ds ∧ ToldAll qs es ∧ HookOk kind ps qs gives ∧ NameOk name ∧ kindOk kind ∧
  S q = some (.ins C []) ∧ P (.dat .none) (S.set q (.ins C (hookF name kind gives ps qs)))
theorem put_kind {v0 v1 : AV} : putFA "kind" v1 ([("name", v0)] : List (Str × AV)) = ([("name", v0), ("kind", v1)] : List (Str × AV)) := by
  simp only [putFA]
  rw [if_neg (by decide +kernel)]
theorem put_gives {v0 v1 v2 : AV} : putFA "gives" v2 ([("name", v0), ("kind", v1)] : List (Str × AV)) = ([("name", v0), ("kind", v1), ("gives", v2)] : List (Str × AV)) := by
  simp only [putFA]
  rw [if_neg (by decide +kernel), if_neg (by decide +kernel)]
theorem put_params {v0 v1 v2 v3 : AV} : putFA "params" v3 ([("name", v0), ("kind", v1), ("gives", v2)] : List (Str × AV)) = ([("name", v0), ("kind", v1), ("gives", v2), ("params", v3)] : List (Str × AV)) := by
  simp only [putFA]
  rw [if_neg (by decide +kernel), if_neg (by decide +kernel), if_neg (by decide +kernel)]
theorem put_only {v0 v1 v2 v3 v4 : AV} : putFA "only" v4 ([("name", v0), ("kind", v1), ("gives", v2), ("params", v3)] : List (Str × AV)) = ([("name", v0), ("kind", v1), ("gives", v2), ("params", v3), ("only", v4)] : List (Str × AV)) := by
  simp only [putFA]
  rw [if_neg (by decide +kernel), if_neg (by decide +kernel), if_neg (by decide +kernel), if_neg (by decide +kernel)]
theorem put_names {v0 v1 v2 v3 v4 v5 : AV} : putFA "names" v5 ([("name", v0), ("kind", v1), ("gives", v2), ("params", v3), ("only", v4)] : List (Str × AV)) = ([("name", v0), ("kind", v1), ("gives", v2), ("params", v3), ("only", v4), ("names", v5)] : List (Str × AV)) := by
  simp only [putFA]
  rw [if_neg (by decide +kernel), if_neg (by decide +kernel), if_neg (by decide +kernel), if_neg (by decide +kernel), if_neg (by decide +kernel)]
end Ov
namespace Ov
open PySem PySem.Spec PyProof.Rows L2
/-! ## a walk over an own list that stays as it is -/
section
variable {K : PySem.W.Frag} {S : Sto} {P : Po} {te t0 : TE} {δ : Dl} {tt : TT}
theorem walk_some {p : Addr} {n : Nat} : Walk (Itl K p) n (fun H => ∃ xs, SqL K H p xs ∧ xs.length = n) (fun i H x H' => H' = H ∧ ∀ xs, SqL K H p xs → xs[i]? = some x) :=
  ⟨fun i H hi ⟨xs, q, e⟩ => ⟨xs, xs[i]'(by omega), q, by simp [show i < xs.length by omega]⟩, fun H ⟨xs, q, e⟩ => ⟨xs, q, by omega⟩, fun _ _ _ _ _ _ y => y⟩
theorem we_lcmL {g : TG} {vs : List Nat} (hw : Wip g vs) (h : WE K t0 δ S fun a S1 => ∃ p ds, a = .own p ∧ S1 p = some (.lst (dats ds)) ∧ ds.length ≤ 10000 ∧ ∃ R : Nat → List PyData, R 0 = [] ∧
    (∀ i D, i < ds.length → S1 D = none → WG K g (.dat (ds.getD i .none)) (wipeD δ vs) (S1.set D (.lst (dats (R i)))) fun δ2 S2 => WT K tt δ2 S2 fun b S3 =>
      if b = true then WE K te δ2 S3 fun y S4 => ∃ d, y = .dat d ∧ S4 = S1.set D (.lst (dats (R i))) ∧ R (i + 1) = R i ++ [d] else S3 = S1.set D (.lst (dats (R i))) ∧ R (i + 1) = R i) ∧
    P (.dat (.list (R ds.length))) S1) : WE K (tLc (iList K t0) g tt te vs) δ S P := fun σ H Q rs s k =>
  h σ H _ rs s fun v H1 a S1 g1 r1 ⟨p, ds, e, hp, hn, R, hR0, hs, hd⟩ => by
    subst e
    cases r1
    obtain ⟨xs0, q1, q2⟩ := g1.rs p _ hp
    refine ⟨p, rfl, ⟨xs0, SqL.of q1⟩, fun D hD => ?_⟩
    have hDS := g1.rs.none_of hD
    have hpD : p ≠ D := fun e => by subst e; rw [hDS] at hp; cases hp
    have g0 : Go K S1 H1 (S1.set D (.lst (dats (R 0)))) (upd H1 D (.lst [])) := by rw [hR0]; exact go_lst g1.rs .nil hD
    have at_p : ∀ {i : Nat} {H' : Hp}, Go K S1 H1 (S1.set D (.lst (dats (R i)))) H' → ∃ xs, H' p = some (.lst xs) ∧ RAs K (S1.set D (.lst (dats (R i)))) H' xs (dats ds) := fun {i H'} g' => g'.rs p (.lst (dats ds)) (by rw [set_ne hpD]; exact hp)
    refine lc_it (walk_some (n := ds.length)) (fun i H' => Go K S1 H1 (S1.set D (.lst (dats (R i)))) H' ∧ (R i).length ≤ i) ⟨g0, by rw [hR0]; exact Nat.le_refl _⟩ (fun i H' _ ⟨g', _⟩ => ?_) ?_ ?_
    · obtain ⟨xs, z1, z2⟩ := at_p g'
      exact ⟨xs, SqL.of z1, by rw [z2.len]; simp [dats]⟩
    · rintro i x H' H'' hi ⟨g', hl⟩ ⟨rfl, y⟩
      obtain ⟨xs, z1, z2⟩ := at_p g'
      have q : Dq K (msk (S1.set D (.lst (dats (R i)))) H'') x (ds.getD i .none) := get_dat z2.to_dp (y xs (SqL.of z1))
      have sw : Sl K (S1.set D (.lst (dats (R i)))) H'' (wipe σ vs) (wipeD δ vs) := (((s.go g1).go g')).wipe vs
      have z := hw x (wipe σ vs) H'' _ (hs i D hi hDS x (wipe σ vs) H'' (fun σ2 H2 => tt σ2 H2 fun b H3 => if b = true then te σ2 H3 fun y H4 => ∃ acc, H4 D = some (.lst acc) ∧ acc.length < sizeLine ∧ (Go K S1 H1 (S1.set D (.lst (dats (R (i + 1))))) (upd H4 D (.lst (acc ++ [y]))) ∧ (R (i + 1)).length ≤ i + 1) else Go K S1 H1 (S1.set D (.lst (dats (R (i + 1))))) H3 ∧ (R (i + 1)).length ≤ i + 1) g'.rs sw q fun σ2 H2 δ2 S2 g3 s2 w2 => ?_)
      · revert z
        have e : wipe (wipe σ vs) vs = wipe σ vs := wipe_wipe σ vs vs fun _ h => h
        rw [e]
        exact fun z => z
      · refine w2 σ2 H2 _ g3.rs s2 fun b H3 S3 g4 w3 => ?_
        have gg := (g'.trans g3).trans g4
        cases b with
        | false =>
          have w4 := iteF' w3
          obtain ⟨e1, e2⟩ := w4
          subst e1
          exact iteF ⟨by rw [e2]; exact gg, by rw [e2]; omega⟩
        | true =>
          refine iteT ((iteT' w3) σ2 H3 _ g4.rs (s2.go g4) fun yv H4 ya S4 g5 r5 ⟨dd, e5, e6, e7⟩ => ?_)
          subst e5 e6
          obtain ⟨ys, u1, u2⟩ := g5.rs D _ set_same
          have hlen : ys.length = (R i).length := by rw [u2.len]; simp [dats]
          refine ⟨ys, u1, ?_, ?_, by rw [e7, List.length_append]; simp; omega⟩
          · have : (R i).length < 100000 := by omega
            rw [hlen]
            exact Nat.lt_of_lt_of_le this (by decide)
          · have g6 := put_lst (p := D) g5.rs (u2.app (.cons r5 .nil)) (by rw [set_same]; rfl)
            rw [set_set, dats_snoc, ← e7] at g6
            exact (gg.trans g5).trans g6
    · rintro H' ⟨g', hl⟩
      have g6 := Go.free D g'.rs
      have r6 : RA K ((S1.set D (.lst (dats (R ds.length)))).del D) H' (.ref D) (.dat (.list (R ds.length))) := ra_free_list g'.rs set_same
      rw [del_set hDS] at g6 r6
      exact k _ H' (.dat (.list (R ds.length))) S1 ((g1.trans g').trans g6) r6 hd
end
/-- data in a list, in a tuple, or in an own list -/
def SeqIn (S : Sto) (a : AV) (ds : List PyData) : Prop := SeqOf a ds ∨ ∃ p, a = .own p ∧ S p = some (.lst (dats ds))
theorem we_lcmS {K : PySem.W.Frag} {S : Sto} {P : Po} {te t0 : TE} {δ : Dl} {tt : TT} {g : TG} {vs : List Nat} {a : AV} {ds : List PyData} (hw : Wip g vs) (q : SeqIn S a ds) (h0 : ∀ Q : Po, Q a S → WE K t0 δ S Q) (hn : ds.length ≤ 10000) (R : Nat → List PyData) (hR : R 0 = [])
    (hs : ∀ i D, i < ds.length → S D = none → WG K g (.dat (ds.getD i .none)) (wipeD δ vs) (S.set D (.lst (dats (R i)))) fun δ2 S2 => WT K tt δ2 S2 fun b S3 =>
      if b = true then WE K te δ2 S3 fun y S4 => ∃ d, y = .dat d ∧ S4 = S.set D (.lst (dats (R i))) ∧ R (i + 1) = R i ++ [d] else S3 = S.set D (.lst (dats (R i))) ∧ R (i + 1) = R i) (hd : P (.dat (.list (R ds.length))) S) : WE K (tLc (iSeqA K t0) g tt te vs) δ S P := by
  rcases q with q | ⟨p, rfl, hp⟩
  · exact we_lcm hw (wi_seq q h0 ⟨by omega, R, hR, hs, hd⟩)
  · exact fun σ H Q rs s k => .inl (we_lcmL (K := K) (S := S) hw (h0 _ ⟨p, ds, rfl, hp, hn, R, hR, hs, hd⟩) σ H Q rs s k)
def spHookNew (C : Addr) : List AV → Sto → Po → Prop := fun as S P => ∃ (q : Addr) (name kind gives : Str) (ps qs : List Pm) (a b : AV) (ds es : List PyData), as = [.own q, .dat (.str name), .dat (.str kind), a, b, .dat (.str gives)] ∧ SeqIn S a ds ∧ SeqIn S b es ∧ ToldAll ps ds ∧ ToldAll qs es ∧ HookOk kind ps qs gives ∧ NameOk name ∧ kindOk kind ∧
  S q = some (.ins C []) ∧ P (.dat .none) (S.set q (.ins C (hookF name kind gives ps qs)))
theorem SeqIn.put {S : Sto} {a : AV} {ds : List PyData} {q C : Addr} {fs : List (Str × AV)} {o : AO} (h : SeqIn S a ds) (hq : S q = some (.ins C fs)) : SeqIn (S.set q o) a ds := by
  rcases h with h | ⟨p, e, hp⟩
  · exact .inl h
  · exact .inr ⟨p, e, by rw [set_ne (fun z => by subst z; rw [hq] at hp; cases hp)]; exact hp⟩
/-- what stood and isn't the box's stays -/
def OnlyK (d g : Addr) (S S' : Sto) : Prop := ∀ a o, S a = some o → a ≠ d → a ≠ g → S' a = some o
def spTold : List AV → Sto → Po → Prop := fun as S P => ∃ (d g : Addr) (ps : List Pm), as = [.own d, .dat (.list (ps.map Pm.d))] ∧ ps.length ≤ 3 ∧ Box d g S ∧ (∀ ds S', ToldAll ps ds → Box d g S' → OnlyK d g S S' → P (.dat (.tuple ds)) S') ∧
  ∀ p ds S', S p = none → ToldAll ps ds → Box d g S' → S' p = some (.lst (dats ds)) → OnlyK d g S S' → P (.own p) S'
theorem pm_fit {p : Pm} (hn : NameOk p.n) (hs : sortOk p.s) (hv : p.v = .none ∨ valOk p.s p.v) : fit p.d = true ∧ cst p.d ≤ 305 ∧ p.d.depth ≤ 1 := by
  have h6 : p.s.length ≤ 8 := by rcases hs with e | e <;> (rw [e]; decide +kernel)
  have hv2 : fit p.v = true ∧ cst p.v = 100 ∧ p.v.depth = 0 := by
    rcases hv with e | ⟨_, w, e, hw⟩ | ⟨_, i, e, h1, h2⟩
    · rw [e]; simp [fit, cst, PyData.depth]
    · rw [e]; simp [fit, cst, PyData.depth, hw.sok, hw.2.1]
    · rw [e]; simp [fit, cst, PyData.depth]; omega
  refine ⟨by simp [Pm.d, fit, fitAll, lower_ok hn.2.2, hn.2.1, hs.sok, h6, hv2.1], by simp only [Pm.d, cst, cstAll, hv2.2.1]; omega, by simp only [Pm.d, PyData.depth, PyData.depthAll, hv2.2.2]; omega⟩
/-- what is shown of a short tuple or list of fitting things -/
theorem short_shown {ds : List PyData} {c : PyData} (hc : c = .list ds ∨ c = .tuple ds) (hl : ds.length ≤ 10) (h : ∀ d ∈ ds, fit d = true ∧ cst d ≤ 400 ∧ d.depth ≤ 5) : c.showable = true ∧ c.hasDict = false ∧ c.depth ≤ 60 ∧ c.shown.length ≤ 10000000 := by
  have hf : fitAll ds = true := fitAll_of fun d hd => (h d hd).1
  have hcs : ∀ l : List PyData, (∀ d ∈ l, cst d ≤ 400) → cstAll l ≤ 400 * l.length := by
    intro l
    induction l with
    | nil => intro _; simp [cstAll]
    | cons a l ih =>
      intro h
      have h1 := h a (by simp)
      have h2 := ih fun x hx => h x (List.mem_cons_of_mem _ hx)
      simp only [cstAll, List.length_cons]
      omega
  have h1 := hcs ds fun d hd => (h d hd).2.1
  have h2 := depth_all (n := 5) fun d hd => (h d hd).2.2
  have hfc : fit c = true := by rcases hc with rfl | rfl <;> (simp only [fit]; exact hf)
  have hcc : cst c ≤ 4005 := by rcases hc with rfl | rfl <;> (simp only [cst]; omega)
  obtain ⟨s1, s2, s3⟩ := shown_le c hfc
  refine ⟨s2, s3, ?_, by omega⟩
  rcases hc with rfl | rfl <;> (simp only [PyData.depth]; omega)
theorem str_fit {z : Str} (h : PyData.strOk z = true) (hl : z.length ≤ 8) : fit (.str z) = true ∧ cst (.str z) ≤ 400 ∧ (PyData.str z).depth ≤ 5 := ⟨by simp [fit, h, hl], by simp [cst], by simp [PyData.depth]⟩
theorem kind_fit {z : Str} (h : kindOk z) : PyData.strOk z = true ∧ z.length ≤ 8 := by rcases h with rfl | rfl | rfl <;> decide +kernel
theorem sort_fit {z : Str} (h : sortOk z) : PyData.strOk z = true ∧ z.length ≤ 8 := by rcases h with rfl | rfl <;> decide +kernel
def spRight (C : Addr) : List AV → Sto → Po → Prop := fun as S P => ∃ (q : Addr) (name kind gives : Str) (ps qs : List Pm), as = [.own q, .dat (hookD name kind ps qs gives)] ∧ HookOk kind ps qs gives ∧ NameOk name ∧ kindOk kind ∧ S q = some (.ins C (hookF name kind gives ps qs)) ∧ P (.dat (.bool true)) S
end Ov
namespace Ov
open PySem PySem.Spec PyProof.Rows L2
/-! ## == and != by an own __eq__ that answers a truth -/
section
variable {X : Cx} {k : Nat} {f : Addr} {fd : FuncData} {ps : List Str} {sp : Sp}
/-- the def at f runs somewhere below the running body -/
theorem run_below {A : Around} {pins : List (Addr × Obj)} {σ : L2.St} {H : Hp} {s : Shared} {Q : VK} {us : List Value} {vs : List V} (F : FnOk X.prog X.w X.K X.mg X.base CX0 k f fd ps sp) (hr : Room k A) (hf : A.frames = X.A.frames) (hb : Binds X.K fd ps [])
    (I : Inv X pins σ H s) (r : Vals vs us) (h : sp vs H Q E0) : wpAny (model X.prog X.w) A (call (.ref f) us) (EP X pins σ Q) X.xe s := by
  have hl : us.length = ps.length := by rw [← r.length]; exact F.len _ _ _ _ h
  have e0 : Env0 X.prog X.w X.K X.mg X.base A X.stack s H := by
    have e := I.env0
    exact ⟨by rw [hf]; exact e.frames, e.mod, e.bs, e.bsz, e.funs, e.frf, e.hok, e.bare⟩
  have hb' := hb s us I.kIn (by rw [List.append_nil]; exact hl)
  rw [List.append_nil] at hb'
  refine wpAny_call (codeAny_mono (F.run A X.stack s H ⟨us, []⟩ us vs Q E0 hr e0 hb' r h) fun res s' hq => ?_)
  match res, hq with
  | .error _, hq => exact False.elim hq
  | .ok (.ret _), hq => exact I.after hq
  | .ok .next, hq => exact False.elim hq
  | .ok .brk, hq => exact False.elim hq
  | .ok .cont, hq => exact False.elim hq
def rEqO (K : PySem.W.Frag) (C : Addr) (sp : Sp) (neg : Bool) : R2 := fun x y H Q => ∃ a dx fs t, x = .ref a ∧ H a = some (.ins C dx fs) ∧ (TyX K H y t ∨ ∃ dy gs, ∃ b, y = .ref b ∧ t = .ref C ∧ H b = some (.ins C dy gs)) ∧ PySem.W.notFirst K C t = true ∧
  sp [x, y] H (fun v H' => ∃ b : Bool, v = .bl b ∧ Q (.bl (if neg then !b else b)) H') E0
theorem looks_ty {pins : List (Addr × Obj)} {σ : L2.St} {H : Hp} {s : Shared} {y : V} {u t : Value} {C : Addr} (I : Inv X pins σ H s) (ry : RelV y u) (h : TyX X.K H y t ∨ ∃ dy gs, ∃ b, y = .ref b ∧ t = .ref C ∧ H b = some (.ins C dy gs)) : PySem.W.Looks (model X.prog X.w) s.heap (typeOf u) t := by
  rcases h with h | ⟨dy, gs, b, rfl, rfl, e⟩
  · obtain ⟨P, Z, hP, _⟩ := kit_of I ry h
    exact Z.ty _ _ I.kIn hP
  · cases ry
    obtain ⟨mB, J, _⟩ := ins_get I.hok e
    obtain ⟨od, J, _⟩ := J.look
    exact J.type
theorem op_eqO {C : Addr} (F : FnOk X.prog X.w X.K X.mg X.base CX0 k f fd ps sp) (hs : PySem.W.findIn X.K (.ref C) "__eq__" = some (some (.ref f))) (hf : PySem.W.isFn X.K (.ref f) = true) (hb : Binds X.K fd ps []) (hr : Room k X.A) : OpR X (compareOp .Eq) (rEqO X.K C sp false) := by
  intro pins s σ H x y v u Q I rx ry h
  obtain ⟨a, dx, fs, t, rfl, ea, ty, hn, hsp⟩ := h
  cases rx
  obtain ⟨mA, J, _⟩ := ins_get I.hok ea
  obtain ⟨od, J, _⟩ := J.look
  obtain ⟨m, hF⟩ := I.fr
  show wpAny (model X.prog X.w) X.A (richCompare .Eq (.ref a) u) (EP X pins σ Q) X.xe s
  refine PySem.W.cmp_K (op := .Eq) (tb := t) hr.units0 hF I.ok.mod.kin J (looks_ty I ry ty) hn hs hf ?_
  refine wpAny_mono (run_below F hr rfl hb I (.cons (show RelV (.ref a) (.ref a) from rfl) (.cons ry .nil)) hsp) (fun r s' q => ?_) fun _ _ z => z
  obtain ⟨z, H', I', rz, b, ez, q⟩ := q
  subst ez
  cases rz
  exact ⟨.bl b, H', I', rfl, by simpa using q⟩
theorem op_eqOK (K : PySem.W.Frag) {C : Addr} (F : FnOk X.prog X.w X.K X.mg X.base CX0 k f fd ps sp) (hs : PySem.W.findIn K (.ref C) "__eq__" = some (some (.ref f))) (hf : PySem.W.isFn K (.ref f) = true) (hb : Binds K fd ps []) (hr : Room k X.A) (h : X.K = K := by rfl) : OpR X (compareOp .Eq) (rEqO K C sp false) := by
  subst h
  exact op_eqO F hs hf hb hr
end
section
variable {M : Model} {prog : Program} {w : World} {A : Around} {E : Value → Shared → Prop} {s : Shared} {K : PySem.W.Frag} {x C f : Addr} {ox : Obj} {od : Option Obj}
theorem ifBound_objNe {args : List Value} {Q : Option Value → Shared → Prop} (X : K.In s.heap) (I : PySem.W.InstAt s.heap x ox C od) (hs : PySem.W.findIn K (.ref C) "__ne__" = some (some (.builtin "object.__ne__")))
    (h : wpAny M A (call (.builtin "object.__ne__") (.ref x :: args)) (fun v => Q (some v)) E s) : wpAny M A (callSpecialIfBound? (.ref x) "__ne__" args) Q E s := by
  simp only [callSpecialIfBound?, bindSpecialIfBound?]
  refine wpAny_holding (wpAny_bind (wpAny_bind (wpAny_bind (I.type.here ((PySem.W.looks_findIn X hs).here ?_)))))
  refine wpAny_bind (wpAny_askSetting (wpAny_ite ?_))
  have fin : wpAny M A (call (.builtin "object.__ne__") ([.ref x] ++ args) >>= fun v => pure (some v)) Q E s := wpAny_bind (wpAny_mono h (fun v s' h' => wpAny_pure h') fun _ _ h' => h')
  split
  · exact wpAny_bind (wpAny_of_eq (F.cmp_object.ne.bind _) (wpAny_pure (by exact fin)))
  · exact wpAny_tryCatch (wpAny_bind (wpAny_of_eq (F.cmp_object.ne.bind _) (wpAny_pure (by exact fin))))
theorem objNe_entry {b : Value} {Q : Fin → Shared → Prop} (hu : A.units < cLine) (X : K.In s.heap) (I : PySem.W.InstAt s.heap x ox C od) (hs : PySem.W.findIn K (.ref C) "__eq__" = some (some (.ref f))) (hf : PySem.W.isFn K (.ref f) = true)
    (h : wpAny M A (call (.ref f) [.ref x, b]) (fun v s' => ∃ r, v = .bool r ∧ Q (.done (.ret (.bool (!r)))) s') E s) : wpAny M A (Builtin.«object.__ne__» ⟨[.ref x, b], []⟩) Q E s := by
  unfold Builtin.«object.__ne__»
  repeat (first
    | with_reducible refine wpAny_cRoomFor hu ?_
    | (refine wpAny_bind (m := callSpecialIfBound? (.ref x) (Str.ofString "__eq__") [b])
        (PySem.W.ifBound_K X I hs hf (wpAny_mono h (fun r s' hr => by
          obtain ⟨c, rfl, hq⟩ := hr
          repeat (first | exact hq | exact wpAny_pure hq | exact wpAny_truthy_bool hq | (refine wpAny_bind (m := truthy (.bool _)) (wpAny_truthy_bool ?_)) | wp_step)) fun _ _ e => e)))
    | wp_step)
theorem ne_K {b tb : Value} {Q : Value → Shared → Prop} (hu : A.in1.units < cLine) (hu0 : A.units < cLine) (X : K.In s.heap) (I : PySem.W.InstAt s.heap x ox C od) (hm : PySem.W.mroIn K C (.type "object") = some true) (hb : PySem.W.Looks (model prog w) s.heap (typeOf b) tb) (hn : PySem.W.notFirst K C tb = true)
    (hs : PySem.W.findIn K (.ref C) "__eq__" = some (some (.ref f))) (hf : PySem.W.isFn K (.ref f) = true) (hne : PySem.W.findIn K (.ref C) "__ne__" = some (some (.builtin "object.__ne__")))
    (h : wpAny (model prog w) A.in1 (call (.ref f) [.ref x, b]) (fun v s' => ∃ r, v = .bool r ∧ Q (.bool (!r)) s') E s) : wpAny (model prog w) A (richCompare .NotEq (.ref x) b) Q E s := by
  have one : wpAny (model prog w) A (tryCompare (.ref x) "__ne__" b) (fun r s' => ∃ v, r = some v ∧ Q v s') E s := by
    unfold tryCompare
    refine wpAny_bind (ifBound_objNe X I hne (wpAny_call (codeAny_call_builtin PySem.F.cmp_object.ne.plain PySem.F.cmpEntry_ne (PySem.W.check_slot PySem.F.cmpKind_ne PySem.F.cmpSplit_ne (I.type.andThen (PySem.W.looks_mroIn X hm)) (PySem.F.cmpArgs_ne _ _)
      (objNe_entry (A := A.in1) hu X I hs hf (wpAny_mono h (fun v s' hv => ?_) fun _ _ e => e))))))
    obtain ⟨r, rfl, hq⟩ := hv
    exact ⟨_, rfl, wpAny_pure ⟨_, rfl, hq⟩⟩
  unfold richCompare
  simp only [oneThing_ref]
  refine wpAny_holding (wpAny_bind (wpAny_cRoomFor hu0 ?_))
  refine wpAny_bind (I.type.here (wpAny_bind (hb.here ?_)))
  split
  · rename_i q
    have e : PySem.W.subIn K tb (.ref C) = some false := by
      rcases Bool.or_eq_true_iff.mp hn with e | e
      · rw [beq_iff_eq.mp e] at q; simp at q
      · exact beq_iff_eq.mp e
    refine wpAny_bind ((PySem.W.looks_subIn X e).here ?_)
    simp only [Bool.false_eq_true, if_false]
    refine wpAny_bind (wpAny_mono one (fun r s' z => ?_) fun _ _ e => e)
    obtain ⟨v, rfl, hq⟩ := z
    exact wpAny_pure hq
  · refine wpAny_bind (wpAny_pure ?_)
    simp only [Bool.false_eq_true, if_false]
    refine wpAny_bind (wpAny_mono one (fun r s' z => ?_) fun _ _ e => e)
    obtain ⟨v, rfl, hq⟩ := z
    exact wpAny_pure hq
end
section
variable {X : Cx} {k : Nat} {f : Addr} {fd : FuncData} {ps : List Str} {sp : Sp}
theorem op_neO {C : Addr} (F : FnOk X.prog X.w X.K X.mg X.base CX0 k f fd ps sp) (hs : PySem.W.findIn X.K (.ref C) "__eq__" = some (some (.ref f))) (hf : PySem.W.isFn X.K (.ref f) = true) (hm : PySem.W.mroIn X.K C (.type "object") = some true)
    (hne : PySem.W.findIn X.K (.ref C) "__ne__" = some (some (.builtin "object.__ne__"))) (hb : Binds X.K fd ps []) (hr : Room (k + 1) X.A) : OpR X (compareOp .NotEq) (rEqO X.K C sp true) := by
  intro pins s σ H x y v u Q I rx ry h
  obtain ⟨a, dx, fs, t, rfl, ea, ty, hn, hsp⟩ := h
  cases rx
  obtain ⟨mA, J, _⟩ := ins_get I.hok ea
  obtain ⟨od, J, _⟩ := J.look
  show wpAny (model X.prog X.w) X.A (richCompare .NotEq (.ref a) u) (EP X pins σ Q) X.xe s
  refine ne_K hr.in1.units0 hr.units0 I.kIn J hm (looks_ty I ry ty) hn hs hf hne ?_
  refine wpAny_mono (run_below F hr.in1 rfl hb I (.cons (show RelV (.ref a) (.ref a) from rfl) (.cons ry .nil)) hsp) (fun r s' q => ?_) fun _ _ z => z
  obtain ⟨z, H', I', rz, b, ez, q⟩ := q
  subst ez
  cases rz
  exact ⟨b, rfl, .bl (!b), H', I', rfl, by simpa using q⟩
theorem op_neOK (K : PySem.W.Frag) {C : Addr} (F : FnOk X.prog X.w X.K X.mg X.base CX0 k f fd ps sp) (hs : PySem.W.findIn K (.ref C) "__eq__" = some (some (.ref f))) (hf : PySem.W.isFn K (.ref f) = true) (hm : PySem.W.mroIn K C (.type "object") = some true)
    (hne : PySem.W.findIn K (.ref C) "__ne__" = some (some (.builtin "object.__ne__"))) (hb : Binds K fd ps []) (hr : Room (k + 1) X.A) (h : X.K = K := by rfl) : OpR X (compareOp .NotEq) (rEqO K C sp true) := by
  subst h
  exact op_neO F hs hf hm hne hb hr
end
end Ov
namespace Ov
open PySem PySem.Spec PyProof.Rows L2
section
variable {K : PySem.W.Frag} {S : Sto} {δ : Dl} {P : Po} {R : Rr} {a b : AV} {t : TS} {tas : TA} {g : TG}
/-- what stands to the right of an own == -/
inductive TyA (K : PySem.W.Frag) (S : Sto) (C : Addr) : AV → Prop
  | ins {q : Addr} {gs : List (Str × AV)} : S q = some (.ins C gs) → TyA K S C (.own q)
  | dat {a : AV} {d : PyData} : Nw S a d → PySem.W.notFirst K C (.type (tyD d)) = true → TyA K S C a
theorem w2_eqO {C p : Addr} {neg : Bool} {fs : List (Str × AV)} {spec : List AV → Sto → Po → Prop} (hp : S p = some (.ins C fs)) (hb : TyA K S C b)
    (h : spec [.own p, b] S fun v S' => ∃ c : Bool, v = .dat (.bool c) ∧ P (.dat (.bool (if neg then !c else c))) S') : W2 K (rEqO K C (SpA K 2 spec) neg) (.own p) b S P := fun x y H Q rs ra rb k => by
  cases ra
  obtain ⟨dx, vs, q1, q2⟩ := rs p _ hp
  have ty : ∃ t, (TyX K H y t ∨ ∃ dy gs, ∃ b, y = .ref b ∧ t = .ref C ∧ H b = some (.ins C dy gs)) ∧ PySem.W.notFirst K C t = true := by
    cases hb with
    | ins e =>
      cases rb
      obtain ⟨dy, ws, z1, z2⟩ := rs _ _ e
      exact ⟨.ref C, .inr ⟨dy, ws, _, rfl, rfl, z1⟩, by simp [PySem.W.notFirst]⟩
    | dat n hn => exact ⟨_, .inl (ty_of n rs rb), hn⟩
  obtain ⟨t, ty, hn⟩ := ty
  refine ⟨p, dx, vs, t, rfl, q1, ty, hn, rfl, _, S, _, rs, .cons (show RA K S H (.ref p) (.own p) from rfl) (.cons rb .nil), h, fun v H' a S' g' r ⟨c, e, q⟩ => ?_⟩
  subst e
  cases r
  exact ⟨c, rfl, k _ H' (.dat (.bool (if neg then !c else c))) S' g' (Dq.bl _) q⟩
/-- C(e, ..): the defaults' values fill up -/
theorem we_make {C : Addr} {N : Nat} {spec : List AV → Sto → Po → Prop} {dvs : List V} {das : List AV} {E : XK} {t : TA} (hd : ∀ S H, RAs K S H dvs das)
    (h : WA K t δ S fun as S1 => ∀ x, S1 x = none → (as ++ das).length + 1 = N ∧ spec (.own x :: (as ++ das)) (S1.set x (.ins C [])) fun v S3 => v = .dat .none ∧ P (.own x) S3) : WE K (tMake C (SpA K N spec) dvs E t) δ S P := fun σ H Q rs s k =>
  h σ H _ rs s fun vs H1 as S1 g1 r1 hx x dx n1 n2 ne => by
    have gd := Go.new (o := .own x) g1.rs n2
    have nx : upd H1 dx (.own x) x = none := by rw [upd_ne (Ne.symm ne)]; exact n1
    have gx : Go K S1 (upd H1 dx (.own x)) (S1.set x (.ins C [])) (upd (upd H1 dx (.own x)) x (.ins C dx [])) := Go.own gd.rs nx fun S' H' e z => ⟨dx, [], z, .nil⟩
    have gg := gd.trans gx
    obtain ⟨hl, sp⟩ := hx x (g1.rs.none_of n1)
    have ra : RAs K (S1.set x (.ins C [])) (upd (upd H1 dx (.own x)) x (.ins C dx [])) (.ref x :: (vs ++ dvs)) (.own x :: (as ++ das)) := .cons (show RA K _ _ (.ref x) (.own x) from rfl) ((r1.up gg.ex).app (hd _ _))
    refine ⟨by rw [ra.len]; exact hl, _, _, _, gx.rs, ra, sp, fun v H' a S' g r p => ?_⟩
    obtain ⟨e, p⟩ := p
    subst e
    cases r
    exact ⟨rfl, k _ H' (.own x) S' ((g1.trans gg).trans g) rfl p⟩
/-- for x in (a, b, ..): anything may stand there -/
theorem ws_forT (h : WA K tas δ S fun as S1 => as.length ≤ 100000 ∧ ∃ I : Nat → Dl → Sto → Prop, I 0 δ S1 ∧
    (∀ i a δ' S', as[i]? = some a → I i δ' S' → WG K g a δ' S' fun δ2 S2 => WS K t δ2 S2 { R with nx := I (i + 1), ct := I (i + 1), bk := R.nx }) ∧ ∀ δ' S', I as.length δ' S' → R.nx δ' S') : WS K (tFor (iTup K (tTup tas)) g t) δ S R := fun σ H D rs s f =>
  h σ H _ rs s fun xs H1 as S1 g1 r1 ⟨hl, I, h0, hs, hd⟩ => by
    refine ⟨Nat.le_trans (by rw [r1.len]; exact hl) (by decide), fun q hq => ?_⟩
    have g2 := Go.new (o := .tup xs) g1.rs hq
    have hq2 : msk S1 (upd H1 q (.tup xs)) q = some (.tup xs) := msk_new g1.rs hq
    have gg := g1.trans g2
    have hlen := r1.len
    refine ⟨q, rfl, ⟨xs, SqT.of (msk_ex _ _ hq2)⟩, ?_⟩
    refine for_tup (K := K) (a := q) (xs := xs) (fun i σ' H' => ∃ δ' S', Go K S1 (upd H1 q (.tup xs)) S' H' ∧ Sl K S' H' σ' δ' ∧ I i δ' S') ⟨δ, S1, Go.refl g2.rs, s.go gg, h0⟩ (fun i σ' H' _ ⟨δ', S', g', _, _⟩ => SqT.of (msk_ex _ _ (g'.ex _ _ hq2))) ?_ ?_
    · rintro i x σ' H' hi ⟨δ', S', g', s', p⟩
      have hi1 : i < xs.length := (List.getElem?_eq_some_iff.mp hi).1
      have hi2 : as[i]? = some (as[i]'(by omega)) := List.getElem?_eq_getElem (by omega)
      obtain ⟨v, e1, e2⟩ := r1.get hi2
      rw [hi] at e1
      cases e1
      refine hs i _ δ' S' hi2 p _ σ' H' _ g'.rs s' (e2.go (g2.trans g')) fun σ2 H2 δ2 S2 g3 s2 w => w σ2 H2 _ g3.rs s2 ?_
      have f2 := (f.go gg).go (g'.trans g3)
      exact ⟨fun σ3 H3 δ3 S3 g4 s3 q => ⟨δ3, S3, (g'.trans g3).trans g4, s3, q⟩, f2.rt, f2.nx, fun σ3 H3 δ3 S3 g4 s3 q => ⟨δ3, S3, (g'.trans g3).trans g4, s3, q⟩⟩
    · rintro σ' H' ⟨δ', S', g', s', p⟩
      rw [hlen] at p
      exact f.nx σ' H' δ' S' (gg.trans g') s' (hd δ' S' p)
end
end Ov
namespace Ov
open PySem PySem.Spec PyProof.Rows L2
/-! ## an own class as it stands behind the top -/
/-- the class of an instance, asked -/
structure ClsF (K : PySem.W.Frag) (C : Addr) : Prop where
  cl : Cls K C
  ha : PySem.W.findIn K (.ref C) "__class__" = some (some (.builtin "object.__class__"))
  hn : PySem.W.specialIn K (.builtin "object.__class__") "__get__" = some (some (.builtin "getset_descriptor.__get__"))
  ht : PySem.W.takesIn K (.builtin "object.__class__") = some true
  hm : PySem.W.mroIn K C (.type "object") = some true
/-- types that are none of C's -/
structure NotC (K : PySem.W.Frag) (C : Addr) : Prop where
  k : ∀ d : PyData, PySem.W.kitOne K (.type (tyD d)) (.ref C) = some false
  f : ∀ d : PyData, PySem.W.notFirst K C (.type (tyD d)) = true
theorem tyD_cases (d : PyData) : tyD d = "NoneType" ∨ tyD d = "bool" ∨ tyD d = "int" ∨ tyD d = "str" ∨ tyD d = "list" ∨ tyD d = "tuple" ∨ tyD d = "dict" := by cases d <;> simp [tyD]
section
variable {K : PySem.W.Frag} {S : Sto} {δ : Dl} {P : Po} {a : AV} {d : PyData} {C q : Addr} {fs : List (Str × AV)}
theorem wc_isiO (hc : ClsF K C) (hq : S q = some (.ins C fs)) (p : P (.dat (.bool true)) S) : WC K (rIsi K) [.own q, .own C] S P := fun xs H Q rs ra k => by
  cases ra with
  | cons r1 r2 =>
    cases r2 with
    | cons r3 r4 =>
      cases r4
      cases r3
      cases r1
      obtain ⟨dx, vs, q1, q2⟩ := rs q _ hq
      exact ⟨_, _, .ref C, .ref C, true, rfl, .own C, .base (.ins q1 hc.cl hc.ha hc.hn hc.ht hc.hm), by simp [PySem.W.kitOne], fin_d rs k (Dq.bl true) p⟩
theorem wc_isiN (hc : NotC K C) (na : Nw S a d) (p : P (.dat (.bool false)) S) : WC K (rIsi K) [a, .own C] S P := fun xs H Q rs ra k => by
  cases ra with
  | cons r1 r2 =>
    cases r2 with
    | cons r3 r4 =>
      cases r4
      cases r3
      exact ⟨_, _, _, .ref C, false, rfl, .own C, ty_of na rs r1, hc.k d, fin_d rs k (Dq.bl false) p⟩
theorem we_cls (p : P (.own C) S) : WE K (tC (.ref C)) δ S P := fun σ H Q r _ k => k _ H (.own C) S (Go.refl r) rfl p
end
/-! ## hooks compared -/
theorem pm_lay {p : Pm} (hn : NameOk p.n) (hs : sortOk p.s) (hv : p.v = .none ∨ valOk p.s p.v) : p.d.canLay0 = true ∧ p.d.depth ≤ 60 := by
  have hv2 : p.v.canLay0 = true ∧ p.v.depth = 0 := by
    rcases hv with e | ⟨_, w, e, hw⟩ | ⟨_, i, e, h1, h2⟩
    · rw [e]; simp [PyData.canLay0, PyData.depth]
    · rw [e]; simp [PyData.canLay0, PyData.depth, hw.sok]
    · rw [e]; simp [PyData.canLay0, PyData.depth]
  refine ⟨by simp [Pm.d, PyData.canLay0, PyData.canLayAll0, lower_ok hn.2.2, hs.sok, hv2.1], ?_⟩
  simp only [Pm.d, PyData.depth, PyData.depthAll, hv2.2]
  omega
theorem sh_tuple {ds : List PyData} (h : ∀ x ∈ ds, x.canLay0 = true ∧ x.depth ≤ 60) : SeqAt.shaped (.tuple ds) = true := by
  obtain ⟨h1, h2⟩ := lay_list h
  simp only [SeqAt.shaped, PyData.canLay0, h1, PyData.depth, Bool.true_and]
  exact decide_eq_true (by omega)
theorem sh_pms {kind outs : Str} {ps qs l : List Pm} (h : HookOk kind ps qs outs) (hl : ∀ p ∈ l, p ∈ ps ++ qs) : SeqAt.shaped (.tuple (l.map Pm.d)) = true := sh_tuple fun x hx => by
  obtain ⟨p, hp, rfl⟩ := List.mem_map.mp hx
  have hp' := hl p hp
  exact pm_lay (h.nm p hp').1 (h.st p hp') (h.vl p hp')
def hookEq (n k g : Str) (ps qs : List Pm) (n' k' g' : Str) (ps' qs' : List Pm) : Bool :=
  decide (n = n') && (decide (k = k') && (PyData.eqv (.tuple (ps.map Pm.d)) (.tuple (ps'.map Pm.d)) && (PyData.eqv (.tuple (qs.map Pm.d)) (.tuple (qs'.map Pm.d)) && decide (g = g'))))
def spHookEq (C : Addr) : List AV → Sto → Po → Prop := fun as S P => ∃ (q : Addr) (n k g : Str) (ps qs : List Pm), HookOk k ps qs g ∧ S q = some (.ins C (hookF n k g ps qs)) ∧
  ((∃ (q' : Addr) (n' k' g' : Str) (ps' qs' : List Pm), as = [.own q, .own q'] ∧ HookOk k' ps' qs' g' ∧ S q' = some (.ins C (hookF n' k' g' ps' qs')) ∧ P (.dat (.bool (hookEq n k g ps qs n' k' g' ps' qs'))) S) ∨
   (∃ b d, as = [.own q, b] ∧ Nw S b d ∧ P (.dat (.bool false)) S))
theorem and_step {b : Bool} {X : Prop} {P : Po} {S : Sto} (h1 : b = true → X) (h2 : b = false → P (.dat (.bool false)) S) : if truD (.bool b) = true then X else P (.dat (.bool b)) S := by
  cases b with
  | true => exact iteT (h1 rfl)
  | false => exact iteF (h2 rfl)
end Ov
namespace Ov
open PySem PySem.Spec PyProof.Rows L2
/-! ## str(x) -/
section
variable {X : Cx} {k : Nat} {f : Addr} {fd : FuncData} {ps : List Str} {sp : Sp}
def rStrB : List V → Hp → VK → Prop := fun xs H Q => (∃ i, xs = [.int i] ∧ i.natAbs.log2 < 1920 ∧ Q (.str (toString i)) H) ∨ ∃ a, xs = [.str a] ∧ Q (.str a) H
theorem call_strB : CallR X (.type "str") rStrB := CallR.or call_str_int SkE.call_str_str
/-- str(o), o of a class with a __str__ of its own -/
def rStrO (C : Addr) (sp : Sp) : List V → Hp → VK → Prop := fun xs H Q => ∃ a dx fs, xs = [.ref a] ∧ H a = some (.ins C dx fs) ∧ sp [.ref a] H (fun v H' => ∃ y : Str, v = .str y ∧ Q (.str y) H') E0
theorem call_strO {C : Addr} (F : FnOk X.prog X.w X.K X.mg X.base CX0 k f fd ps sp) (hs : PySem.W.findIn X.K (.ref C) "__str__" = some (some (.ref f))) (hf : PySem.W.isFn X.K (.ref f) = true) (hb : Binds X.K fd ps []) (hr : Room (k + 2) X.A) : CallR X (.type "str") (rStrO C sp) := by
  intro pins s σ H xs us Q I r h
  obtain ⟨a, dx, fs, rfl, ea, hsp⟩ := h
  cases r with
  | cons r1 r2 =>
    cases r2
    cases r1
    obtain ⟨mA, J, _⟩ := ins_get I.hok ea
    obtain ⟨od, J, _⟩ := J.look
    refine PySem.W.kso_call hr.in1.in1.units0 I.kIn J hs hf ?_
    refine wpAny_mono (run_below F hr.in1.in1 rfl hb I (.cons (show RelV (.ref a) (.ref a) from rfl) .nil) hsp) (fun r s' q => ?_) fun _ _ z => z
    obtain ⟨z, H', I', rz, y, ez, q⟩ := q
    subst ez
    obtain ⟨tk, rfl⟩ := rz
    exact ⟨.str y, H', I', ⟨tk, rfl⟩, q⟩
theorem call_strOK (K : PySem.W.Frag) {C : Addr} (F : FnOk X.prog X.w X.K X.mg X.base CX0 k f fd ps sp) (hs : PySem.W.findIn K (.ref C) "__str__" = some (some (.ref f))) (hf : PySem.W.isFn K (.ref f) = true) (hb : Binds K fd ps []) (hr : Room (k + 2) X.A) (h : X.K = K := by rfl) : CallR X (.type "str") (rStrO C sp) := by
  subst h
  exact call_strO F hs hf hb hr
end
section
variable {K : PySem.W.Frag} {S : Sto} {δ : Dl} {P : Po} {a : AV} {te t : TE} {ts : List TE} {acc : Str}
theorem wc_strI {i : Int} (h : i.natAbs.log2 < 1920) (p : P (.dat (.str (toString i))) S) : WC K rStrB [.dat (.int i)] S P := fun xs H Q rs ra k => by
  cases ra with
  | cons r1 r2 => cases r2; cases r1; exact .inl ⟨i, rfl, h, fin_d rs k (Dq.str _) p⟩
theorem wc_strS {x : Str} (p : P (.dat (.str x)) S) : WC K rStrB [.dat (.str x)] S P := fun xs H Q rs ra k => by
  cases ra with
  | cons r1 r2 => cases r2; cases r1; exact .inr ⟨x, rfl, fin_d rs k (Dq.str _) p⟩
theorem wc_strO {C q : Addr} {fs : List (Str × AV)} {spec : List AV → Sto → Po → Prop} (hq : S q = some (.ins C fs)) (h : spec [.own q] S fun v S' => ∃ y : Str, v = .dat (.str y) ∧ P (.dat (.str y)) S') : WC K (rStrO C (SpA K 1 spec)) [.own q] S P := fun xs H Q rs ra k => by
  cases ra with
  | cons r1 r2 =>
    cases r2
    cases r1
    obtain ⟨dx, vs, q1, q2⟩ := rs q _ hq
    refine ⟨q, dx, vs, rfl, q1, rfl, _, S, _, rs, .cons (show RA K S H (.ref q) (.own q) from rfl) .nil, h, fun v H' a S' g' r ⟨y, e, z⟩ => ?_⟩
    subst e
    cases r
    exact ⟨y, rfl, k _ H' (.dat (.str y)) S' g' (Dq.str _) z⟩
/-! ## f-strings -/
def WJ (K : PySem.W.Frag) (ts : List TE) (acc : Str) (δ : Dl) (S : Sto) (P : Str → Sto → Prop) : Prop := ∀ (σ : L2.St) (H : Hp) (Q : Str → Hp → Prop), RS K S H → Sl K S H σ δ → (∀ out H' S', Go K S H S' H' → P out S' → Q out H') → tJs ts acc σ H Q
theorem wj_nil {P : Str → Sto → Prop} (p : P acc S) : WJ K [] acc δ S P := fun σ H Q rs s k => k acc H S (Go.refl rs) p
theorem wj_cons {P : Str → Sto → Prop} (h : WE K t δ S fun a S1 => ∃ y, a = .dat (.str y) ∧ (acc ++ y).length ≤ 1000000 ∧ WJ K ts (acc ++ y) δ S1 P) : WJ K (t :: ts) acc δ S P := fun σ H Q rs s k =>
  h σ H _ rs s fun v H1 a S1 g1 r1 ⟨y, e, hl, w⟩ => by
    subst e
    cases r1
    exact ⟨y, rfl, Nat.le_trans hl (by decide), w σ H1 Q g1.rs (s.go g1) fun out H' S' g p => k out H' S' (g1.trans g) p⟩
theorem we_joined (h : WJ K ts Str.empty δ S fun out S1 => P (.dat (.str out)) S1) : WE K (fun σ H Q => tJs ts Str.empty σ H fun out H1 => Q (.str out) H1) δ S P := fun σ H Q rs s k =>
  h σ H _ rs s fun out H' S' g p => k _ H' (.dat (.str out)) S' g (Dq.str _) p
theorem we_fmtS (h : WE K te δ S fun a S1 => ∃ y, a = .dat (.str y) ∧ y.length ≤ 1000000 ∧ P (.dat (.str y)) S1) : WE K (tFmt te) δ S P := fun σ H Q rs s k =>
  h σ H _ rs s fun v H1 a S1 g1 r1 ⟨y, e, hl, p⟩ => by
    subst e
    cases r1
    exact .inl ⟨y, rfl, Nat.le_trans hl (by decide), k _ H1 (.dat (.str y)) S1 g1 (Dq.str _) p⟩
theorem we_fmtI (h : WE K te δ S fun a S1 => ∃ i, a = .dat (.int i) ∧ i.natAbs.log2 < 1920 ∧ P (.dat (.str (toString i))) S1) : WE K (tFmt te) δ S P := fun σ H Q rs s k =>
  h σ H _ rs s fun v H1 a S1 g1 r1 ⟨y, e, hl, p⟩ => by
    subst e
    cases r1
    exact .inr ⟨y, rfl, hl, k _ H1 (.dat (.str _)) S1 g1 (Dq.str _) p⟩
/-- bools compared -/
theorem w2_neB {i j : Bool} (p : P (.dat (.bool (i != j))) S) : W2 K (rNeA K) (.dat (.bool i)) (.dat (.bool j)) S P := fun x y H Q rs ra rb k => by
  cases ra; cases rb
  refine .inr ⟨rfl, ?_⟩
  have e : (!decide (V.bl i = V.bl j)) = (i != j) := by cases i <;> cases j <;> decide
  rw [e]
  exact fin_d rs k (Dq.bl _) p
theorem w2_eqB {i j : Bool} (p : P (.dat (.bool (i == j))) S) : W2 K (rEqA K) (.dat (.bool i)) (.dat (.bool j)) S P := fun x y H Q rs ra rb k => by
  cases ra; cases rb
  refine .inr ⟨rfl, ?_⟩
  have e : (decide (V.bl i = V.bl j)) = (i == j) := by cases i <;> cases j <;> decide
  rw [e]
  exact fin_d rs k (Dq.bl _) p
end
end Ov
namespace Ov
open PySem PySem.Spec PyProof.Rows L2
/-! ## what is shown tells the data: plain data -/
mutual
def plainD : PyData → Bool
  | .none => true
  | .bool _ => true
  | .int _ => true
  | .str x => (cs x).all fun c => decide (97 ≤ c ∧ c ≤ 122)
  | .list xs => plainAllD xs
  | .tuple xs => plainAllD xs
  | .dict _ => false
def plainAllD : List PyData → Bool
  | [] => true
  | x :: xs => plainD x && plainAllD xs
end
theorem cs_of (x : String) : cs (Str.ofString x) = x.toList.map Char.toNat := by
  rw [Str.ofString_eq_toList]
theorem cs_inj_str {x y : String} (h : cs (Str.ofString x) = cs (Str.ofString y)) : x = y := by
  rw [cs_of, cs_of] at h
  have e : x.toList = y.toList := (List.map_inj_right (fun a b hab => Char.toNat_inj.mp hab)).mp h
  exact String.toList_inj.mp e
def numCode (c : Nat) : Prop := c = 45 ∨ (48 ≤ c ∧ c ≤ 57)
theorem nat_codes (n : Nat) : ∀ c ∈ n.repr.toList.map Char.toNat, numCode c := by
  intro c hc
  obtain ⟨d, hd, rfl⟩ := List.mem_map.mp hc
  rw [Nat.toList_repr] at hd
  have := Nat.isDigit_of_mem_toDigits (by decide) (by decide) hd
  rw [Char.isDigit_iff_toNat] at this
  exact .inr this
theorem int_codes (i : Int) : ∀ c ∈ cs (Str.ofString (toString i)), numCode c := by
  intro c hc
  rw [cs_of] at hc
  have e : toString i = i.repr := rfl
  rw [e] at hc
  cases i with
  | ofNat n => exact nat_codes n c hc
  | negSucc n =>
    have e2 : (Int.negSucc n).repr = "-" ++ n.succ.repr := rfl
    rw [e2, String.toList_append, List.map_append] at hc
    rcases List.mem_append.mp hc with h | h
    · exact .inl (by simpa using h)
    · exact nat_codes _ c h
theorem int_ne (i : Int) : cs (Str.ofString (toString i)) ≠ [] := by
  rw [cs_of]
  have e : toString i = i.repr := rfl
  rw [e]
  cases i with
  | ofNat n =>
    show n.repr.toList.map Char.toNat ≠ []
    rw [Nat.toList_repr]
    intro h
    exact Nat.toDigits_ne_nil (List.map_eq_nil_iff.mp h)
  | negSucc n =>
    have e2 : (Int.negSucc n).repr = "-" ++ n.succ.repr := rfl
    rw [e2, String.toList_append, List.map_append]
    simp
/-- an end of a piece: nothing, or a comma or a bracket -/
def Dlm (r : List Nat) : Prop := r = [] ∨ ∃ c t, r = c :: t ∧ (c = 44 ∨ c = 93 ∨ c = 41)
theorem split_class {p : Nat → Prop} [DecidablePred p] {a b r r' : List Nat} (ha : ∀ c ∈ a, p c) (hb : ∀ c ∈ b, p c) (hr : r = [] ∨ ∃ c t, r = c :: t ∧ ¬ p c) (hr' : r' = [] ∨ ∃ c t, r' = c :: t ∧ ¬ p c) (h : a ++ r = b ++ r') : a = b ∧ r = r' := by
  induction a generalizing b with
  | nil =>
    cases b with
    | nil => exact ⟨rfl, h⟩
    | cons c b =>
      rcases hr with rfl | ⟨d, t, rfl, hd⟩
      · simp at h
      · have := List.cons.inj h
        exact absurd (hb d (by rw [this.1]; simp)) hd
  | cons x a ih =>
    cases b with
    | nil =>
      rcases hr' with rfl | ⟨d, t, rfl, hd⟩
      · simp at h
      · have := List.cons.inj h
        exact absurd (ha d (by rw [← this.1]; simp)) hd
    | cons y b =>
      have := List.cons.inj h
      obtain ⟨e1, e2⟩ := ih (b := b) (fun c hc => ha c (List.mem_cons_of_mem _ hc)) (fun c hc => hb c (List.mem_cons_of_mem _ hc)) this.2
      exact ⟨by rw [this.1, e1], e2⟩
instance : DecidablePred numCode := fun c => inferInstanceAs (Decidable (c = 45 ∨ (48 ≤ c ∧ c ≤ 57)))
theorem dlm_num {r : List Nat} (h : Dlm r) : r = [] ∨ ∃ c t, r = c :: t ∧ ¬ numCode c := by
  rcases h with h | ⟨c, t, e, hc⟩
  · exact .inl h
  · exact .inr ⟨c, t, e, by unfold numCode; omega⟩
theorem lower_repr_all : ∀ c : Fin 26, Builtin.Str.reprChar 39 (c.val + 97) = [c.val + 97] := by decide +kernel
theorem repr_codes {x : Str} (h : ∀ c ∈ cs x, 97 ≤ c ∧ c ≤ 122) : cs (PySem.reprText x) = 39 :: (cs x ++ [39]) := by
  have hq : PySem.reprQuote x = 39 := by
    unfold PySem.reprQuote
    have : x.cps.contains 39 = false := by
      rw [Bool.eq_false_iff]
      intro hc
      have := h 39 (by unfold cs; exact Array.mem_toList_iff.mpr (by simpa using hc))
      omega
    rw [this]
    simp
  have hone : ∀ c, 97 ≤ c ∧ c ≤ 122 → Builtin.Str.reprChar 39 c = [c] := by
    intro c hc
    have := lower_repr_all ⟨c - 97, by omega⟩
    have e : c - 97 + 97 = c := by omega
    simpa [e] using this
  unfold PySem.reprText
  rw [hq]
  have key : ∀ (l : List Nat) (acc : Array Nat), (∀ c ∈ l, 97 ≤ c ∧ c ≤ 122) → (l.foldl (fun out c => out ++ (Builtin.Str.reprChar 39 c).toArray) acc).toList = acc.toList ++ l := by
    intro l
    induction l with
    | nil => intro acc _; simp
    | cons c l ih =>
      intro acc hl
      rw [List.foldl_cons, ih _ (fun d hd => hl d (List.mem_cons_of_mem _ hd)), hone c (hl c (by simp))]
      simp
  show ((x.cps.foldl (fun out c => out ++ (Builtin.Str.reprChar 39 c).toArray) #[39]).push 39).toList = _
  rw [Array.toList_push, ← Array.foldl_toList, key x.cps.toList #[39] h]
  rfl

/-- the codes of what is shown -/
def T (d : PyData) : List Nat := cs d.shown
def J : List (List Nat) → List Nat
  | [] => []
  | [t] => t
  | t :: u :: r => t ++ 44 :: 32 :: J (u :: r)
theorem cs_textFrom : ∀ (ts : List Str) (k : Nat) (acc : Str), cs (PySem.textFrom k acc ts) = cs acc ++ (if k > 0 ∧ ts ≠ [] then [44, 32] else []) ++ J (ts.map cs)
  | [], k, acc => by
    show cs acc = _
    simp [J]
  | t :: r, k, acc => by
    have ih := cs_textFrom r (k + 1) (acc ++ (if k > 0 then ", " else "" : String) ++ t)
    show cs (PySem.textFrom (k + 1) (acc ++ (if k > 0 then ", " else "" : String) ++ t) r) = _
    rw [ih, cs_app, cs_app]
    have e1 : cs (Str.ofString (if k > 0 then ", " else "" : String)) = if k > 0 then [44, 32] else [] := by split <;> decide +kernel
    rw [e1]
    cases r with
    | nil => by_cases hk : k > 0 <;> simp [hk, J]
    | cons u r => by_cases hk : k > 0 <;> simp [hk, J]
theorem cs_join2 : ∀ ts : List Str, cs (Str.join ", " ts) = J (ts.map cs)
  | [] => rfl
  | [t] => rfl
  | t :: u :: r => by
    have ih := cs_join2 (u :: r)
    show cs (t ++ ", " ++ Str.join ", " (u :: r)) = _
    rw [cs_app, cs_app, ih]
    have e1 : cs (Str.ofString ", ") = [44, 32] := by decide +kernel
    rw [e1]
    simp [J]
theorem T_list (ds : List PyData) : T (.list ds) = 91 :: (J ((PyData.shownAll ds).map cs) ++ [93]) := by
  show cs (PyData.shown (.list ds)) = _
  simp only [PyData.shown]
  unfold PySem.listText
  rw [cs_app, cs_textFrom]
  have e1 : cs (Str.ofString "[") = [91] := by decide +kernel
  have e2 : cs (Str.ofString "]") = [93] := by decide +kernel
  rw [e1, e2]
  simp
theorem T_tuple (ds : List PyData) : T (.tuple ds) = 40 :: (J ((PyData.shownAll ds).map cs) ++ if ds.length = 1 then [44, 41] else [41]) := by
  show cs (PyData.shown (.tuple ds)) = _
  simp only [PyData.shown]
  unfold PySem.tupleText
  rw [cs_app, cs_app, cs_join2]
  have e1 : cs (Str.ofString "(") = [40] := by decide +kernel
  have hl : (PyData.shownAll ds).length = ds.length := by
    induction ds with
    | nil => rfl
    | cons d ds ih => simp [PyData.shownAll, ih]
  rw [hl, e1]
  have e2 : cs (Str.ofString (if ds.length == 1 then ",)" else ")" : String)) = if ds.length = 1 then [44, 41] else [41] := by
    by_cases h : ds.length = 1
    · rw [h]; decide +kernel
    · have : (ds.length == 1) = false := by simpa using h
      rw [this, if_neg h]; decide +kernel
  rw [e2]
  simp
theorem T_none : T .none = [78, 111, 110, 101] := by unfold T; simp only [PyData.shown]; decide +kernel
theorem T_bool (b : Bool) : T (.bool b) = if b then [84, 114, 117, 101] else [70, 97, 108, 115, 101] := by cases b <;> (unfold T; simp only [PyData.shown]; decide +kernel)
theorem T_int (i : Int) : T (.int i) = cs (Str.ofString (toString i)) := by unfold T; simp only [PyData.shown]
theorem plain_str {x : Str} (h : plainD (.str x) = true) : ∀ c ∈ cs x, 97 ≤ c ∧ c ≤ 122 := fun c hc => by
  simp only [plainD, List.all_eq_true] at h
  exact of_decide_eq_true (h c hc)
theorem T_str {x : Str} (h : plainD (.str x) = true) : T (.str x) = 39 :: (cs x ++ [39]) := by
  unfold T
  simp only [PyData.shown]
  exact repr_codes (plain_str h)
/-- how what is shown begins, by its kind -/
def headK : PyData → Nat → Prop
  | .none, c => c = 78
  | .bool b, c => c = if b then 84 else 70
  | .int _, c => numCode c
  | .str _, c => c = 39
  | .list _, c => c = 91
  | .tuple _, c => c = 40
  | .dict _, _ => False
theorem T_head {d : PyData} (h : plainD d = true) : ∃ c t, T d = c :: t ∧ headK d c := by
  cases d with
  | none => exact ⟨_, _, T_none, rfl⟩
  | bool b => cases b <;> exact ⟨_, _, T_bool _, rfl⟩
  | int i =>
    rw [T_int]
    cases e : cs (Str.ofString (toString i)) with
    | nil => exact absurd e (int_ne i)
    | cons c t => exact ⟨c, t, rfl, int_codes i c (by rw [e]; simp)⟩
  | str x => exact ⟨_, _, T_str h, rfl⟩
  | list xs => exact ⟨_, _, T_list xs, rfl⟩
  | tuple xs => exact ⟨_, _, T_tuple xs, rfl⟩
  | dict kvs => simp [plainD] at h
theorem head_close {d : PyData} {c : Nat} (h : headK d c) : c ≠ 93 ∧ c ≠ 41 ∧ c ≠ 44 := by
  cases d with
  | bool b => cases b <;> simp [headK] at h <;> omega
  | int i => simp only [headK, numCode] at h; omega
  | dict _ => exact h.elim
  | none => simp only [headK] at h; omega
  | str _ => simp only [headK] at h; omega
  | list _ => simp only [headK] at h; omega
  | tuple _ => simp only [headK] at h; omega
def Clo (r : List Nat) : Prop := (∃ t, r = 93 :: t) ∨ (∃ t, r = 41 :: t) ∨ ∃ t, r = 44 :: 41 :: t
theorem Clo.dlm {r : List Nat} (h : Clo r) : Dlm r := by
  rcases h with ⟨t, e⟩ | ⟨t, e⟩ | ⟨t, e⟩
  · exact .inr ⟨_, _, e, by omega⟩
  · exact .inr ⟨_, _, e, by omega⟩
  · exact .inr ⟨_, _, e, by omega⟩
theorem J_cons (d : PyData) (ds : List PyData) : J ((PyData.shownAll (d :: ds)).map cs) = T d ++ (if ds = [] then [] else 44 :: 32 :: J ((PyData.shownAll ds).map cs)) := by
  cases ds with
  | nil => simp [PyData.shownAll, J, T]
  | cons e es => simp [PyData.shownAll, J, T]
theorem items_inj (ds : List PyData) (ih : ∀ d ∈ ds, ∀ e r r', plainD d = true → plainD e = true → Dlm r → Dlm r' → T d ++ r = T e ++ r' → d = e ∧ r = r') :
    ∀ (es : List PyData) (r r' : List Nat), plainAllD ds = true → plainAllD es = true → Clo r → Clo r' → J ((PyData.shownAll ds).map cs) ++ r = J ((PyData.shownAll es).map cs) ++ r' → ds = es ∧ r = r' := by
  induction ds with
  | nil =>
    intro es r r' _ he hr _ h
    cases es with
    | nil => exact ⟨rfl, h⟩
    | cons e es =>
      simp only [plainAllD, Bool.and_eq_true] at he
      obtain ⟨c, t, e1, e2⟩ := T_head he.1
      have := head_close e2
      rw [J_cons, e1] at h
      have h' : r = c :: (t ++ (if es = [] then [] else 44 :: 32 :: J ((PyData.shownAll es).map cs)) ++ r') := by simpa [PyData.shownAll, J] using h
      rcases hr with ⟨u, e3⟩ | ⟨u, e3⟩ | ⟨u, e3⟩ <;> (rw [e3] at h'; have := (List.cons.inj h').1; omega)
  | cons d ds iht =>
    intro es r r' hd he hr hr' h
    simp only [plainAllD, Bool.and_eq_true] at hd
    cases es with
    | nil =>
      obtain ⟨c, t, e1, e2⟩ := T_head hd.1
      have := head_close e2
      rw [J_cons, e1] at h
      have h' : c :: (t ++ (if ds = [] then [] else 44 :: 32 :: J ((PyData.shownAll ds).map cs)) ++ r) = r' := by simpa [PyData.shownAll, J] using h
      rcases hr' with ⟨u, e3⟩ | ⟨u, e3⟩ | ⟨u, e3⟩ <;> (rw [e3] at h'; have := (List.cons.inj h').1; omega)
    | cons e es =>
      simp only [plainAllD, Bool.and_eq_true] at he
      rw [J_cons, J_cons, List.append_assoc, List.append_assoc] at h
      have dl : ∀ (l : List PyData) (q : List Nat), Clo q → Dlm ((if l = [] then [] else 44 :: 32 :: J ((PyData.shownAll l).map cs)) ++ q) := by
        intro l q hq
        by_cases hl : l = []
        · rw [if_pos hl]; exact hq.dlm
        · rw [if_neg hl]; exact .inr ⟨44, _, rfl, by omega⟩
      obtain ⟨h1, h2⟩ := ih d (by simp) e _ _ hd.1 he.1 (dl ds r hr) (dl es r' hr') h
      by_cases hds : ds = []
      · by_cases hes : es = []
        · rw [if_pos hds, if_pos hes] at h2
          exact ⟨by rw [h1, hds, hes], h2⟩
        · rw [if_pos hds, if_neg hes] at h2
          rcases hr with ⟨u, e3⟩ | ⟨u, e3⟩ | ⟨u, e3⟩ <;> (rw [e3] at h2; simp at h2)
      · by_cases hes : es = []
        · rw [if_neg hds, if_pos hes] at h2
          rcases hr' with ⟨u, e3⟩ | ⟨u, e3⟩ | ⟨u, e3⟩ <;> (rw [e3] at h2; simp at h2)
        · rw [if_neg hds, if_neg hes] at h2
          have h3 : J ((PyData.shownAll ds).map cs) ++ r = J ((PyData.shownAll es).map cs) ++ r' := by simpa using h2
          obtain ⟨h4, h5⟩ := iht (fun x hx => ih x (List.mem_cons_of_mem _ hx)) es r r' hd.2 he.2 hr hr' h3
          exact ⟨by rw [h1, h4], h5⟩
theorem plain_mem {ds : List PyData} (h : plainAllD ds = true) : ∀ d ∈ ds, plainD d = true := by
  induction ds with
  | nil => intro d hd; cases hd
  | cons a l ih =>
    simp only [plainAllD, Bool.and_eq_true] at h
    intro d hd
    rcases List.mem_cons.mp hd with e | hd
    · rw [e]; exact h.1
    · exact ih h.2 d hd
theorem T_inj : ∀ (d e : PyData) (r r' : List Nat), plainD d = true → plainD e = true → Dlm r → Dlm r' → T d ++ r = T e ++ r' → d = e ∧ r = r'
  | d, e, r, r', hd, he, hr, hr', h => by
    obtain ⟨c, t, e1, k1⟩ := T_head hd
    obtain ⟨c', t', e2, k2⟩ := T_head he
    have hc : c = c' := by rw [e1, e2] at h; exact (List.cons.inj h).1
    subst hc
    match d, e, hd, he, k1, k2 with
    | .none, .none, _, _, _, _ => exact ⟨rfl, List.append_cancel_left h⟩
    | .bool b, .bool b', _, _, k1, k2 =>
      have hb : b = b' := by
        cases b <;> cases b' <;> simp [headK] at k1 k2 <;> first | rfl | omega
      subst hb
      exact ⟨rfl, List.append_cancel_left h⟩
    | .int i, .int j, _, _, _, _ =>
      rw [T_int, T_int] at h
      obtain ⟨h1, h2⟩ := split_class (int_codes i) (int_codes j) (dlm_num hr) (dlm_num hr') h
      have h3 : i.repr = j.repr := cs_inj_str h1
      exact ⟨by rw [Int.repr_inj.mp h3], h2⟩
    | .str x, .str y, hx, hy, _, _ =>
      rw [T_str hx, T_str hy] at h
      rw [List.cons_append, List.cons_append] at h
      have h1 := (List.cons.inj h).2
      rw [List.append_assoc, List.append_assoc] at h1
      obtain ⟨h2, h3⟩ := split_class (p := fun c => 97 ≤ c ∧ c ≤ 122) (plain_str hx) (plain_str hy) (.inr ⟨39, r, rfl, by omega⟩) (.inr ⟨39, r', rfl, by omega⟩) h1
      exact ⟨by rw [str_ext h2], by simpa using h3⟩
    | .list ds, .list es, hx, hy, _, _ =>
      rw [T_list, T_list] at h
      rw [List.cons_append, List.cons_append] at h
      have h1 := (List.cons.inj h).2
      rw [List.append_assoc, List.append_assoc] at h1
      simp only [plainD] at hx hy
      obtain ⟨h2, h3⟩ := items_inj ds (fun d hd e r r' => T_inj d e r r') es _ _ hx hy (.inl ⟨r, rfl⟩) (.inl ⟨r', rfl⟩) h1
      exact ⟨by rw [h2], by simpa using h3⟩
    | .tuple ds, .tuple es, hx, hy, _, _ =>
      rw [T_tuple, T_tuple] at h
      rw [List.cons_append, List.cons_append] at h
      have h1 := (List.cons.inj h).2
      rw [List.append_assoc, List.append_assoc] at h1
      simp only [plainD] at hx hy
      have cl : ∀ (l : List PyData) (q : List Nat), Clo ((if l.length = 1 then [44, 41] else [41]) ++ q) := by
        intro l q
        by_cases hl : l.length = 1
        · rw [if_pos hl]; exact .inr (.inr ⟨q, rfl⟩)
        · rw [if_neg hl]; exact .inr (.inl ⟨q, rfl⟩)
      obtain ⟨h2, h3⟩ := items_inj ds (fun d hd e r r' => T_inj d e r r') es _ _ hx hy (cl ds r) (cl es r') h1
      subst h2
      exact ⟨rfl, List.append_cancel_left h3⟩
    | .none, .bool b, _, _, k1, k2 => exact absurd k2 (by cases b <;> simp [headK] at k1 ⊢ <;> omega)
    | .none, .int _, _, _, k1, k2 => simp only [headK, numCode] at k1 k2; omega
    | .none, .str _, _, _, k1, k2 => simp only [headK] at k1 k2; omega
    | .none, .list _, _, _, k1, k2 => simp only [headK] at k1 k2; omega
    | .none, .tuple _, _, _, k1, k2 => simp only [headK] at k1 k2; omega
    | .bool b, .none, _, _, k1, k2 => exact absurd k1 (by cases b <;> simp [headK] at k2 ⊢ <;> omega)
    | .bool b, .int _, _, _, k1, k2 => exact absurd k1 (by cases b <;> simp [headK, numCode] at k2 ⊢ <;> omega)
    | .bool b, .str _, _, _, k1, k2 => exact absurd k1 (by cases b <;> simp [headK] at k2 ⊢ <;> omega)
    | .bool b, .list _, _, _, k1, k2 => exact absurd k1 (by cases b <;> simp [headK] at k2 ⊢ <;> omega)
    | .bool b, .tuple _, _, _, k1, k2 => exact absurd k1 (by cases b <;> simp [headK] at k2 ⊢ <;> omega)
    | .int _, .none, _, _, k1, k2 => simp only [headK, numCode] at k1 k2; omega
    | .int _, .bool b, _, _, k1, k2 => exact absurd k2 (by cases b <;> simp [headK, numCode] at k1 ⊢ <;> omega)
    | .int _, .str _, _, _, k1, k2 => simp only [headK, numCode] at k1 k2; omega
    | .int _, .list _, _, _, k1, k2 => simp only [headK, numCode] at k1 k2; omega
    | .int _, .tuple _, _, _, k1, k2 => simp only [headK, numCode] at k1 k2; omega
    | .str _, .none, _, _, k1, k2 => simp only [headK] at k1 k2; omega
    | .str _, .bool b, _, _, k1, k2 => exact absurd k2 (by cases b <;> simp [headK] at k1 ⊢ <;> omega)
    | .str _, .int _, _, _, k1, k2 => simp only [headK, numCode] at k1 k2; omega
    | .str _, .list _, _, _, k1, k2 => simp only [headK] at k1 k2; omega
    | .str _, .tuple _, _, _, k1, k2 => simp only [headK] at k1 k2; omega
    | .list _, .none, _, _, k1, k2 => simp only [headK] at k1 k2; omega
    | .list _, .bool b, _, _, k1, k2 => exact absurd k2 (by cases b <;> simp [headK] at k1 ⊢ <;> omega)
    | .list _, .int _, _, _, k1, k2 => simp only [headK, numCode] at k1 k2; omega
    | .list _, .str _, _, _, k1, k2 => simp only [headK] at k1 k2; omega
    | .list _, .tuple _, _, _, k1, k2 => simp only [headK] at k1 k2; omega
    | .tuple _, .none, _, _, k1, k2 => simp only [headK] at k1 k2; omega
    | .tuple _, .bool b, _, _, k1, k2 => exact absurd k2 (by cases b <;> simp [headK] at k1 ⊢ <;> omega)
    | .tuple _, .int _, _, _, k1, k2 => simp only [headK, numCode] at k1 k2; omega
    | .tuple _, .str _, _, _, k1, k2 => simp only [headK] at k1 k2; omega
    | .tuple _, .list _, _, _, k1, k2 => simp only [headK] at k1 k2; omega
    | .dict _, _, hx, _, _, _ => simp [plainD] at hx
    | _, .dict _, _, hy, _, _ => simp [plainD] at hy
termination_by d => sizeOf d
decreasing_by
  all_goals (subst_vars; have := List.sizeOf_lt_of_mem hd; simp; omega)
/-- plain data that are shown alike are alike -/
theorem shown_inj {d e : PyData} (hd : plainD d = true) (he : plainD e = true) (h : d.shown = e.shown) : d = e :=
  (T_inj d e [] [] hd he (.inl rfl) (.inl rfl) (by unfold T; rw [h])).1
end Ov
namespace Ov
open PySem PySem.Spec PyProof.Rows L2
/-! ## texts of hooks -/
theorem slen (a b : Str) : (a ++ b).length = a.length + b.length := strLen_append a b
theorem empty_app (x : Str) : Str.empty ++ x = x := str_ext (by rw [cs_app]; rfl)
theorem app_assoc (x y z : Str) : x ++ y ++ z = x ++ (y ++ z) := str_ext (by simp [cs_app])
theorem join_len (z : Str) : ∀ ys : List Str, (Str.join z ys).length ≤ (ys.map (·.length)).sum + ys.length * z.length
  | [] => by show 0 ≤ _; omega
  | [x] => by show x.length ≤ _; simp
  | x :: y :: r => by
    have ih := join_len z (y :: r)
    show (x ++ z ++ Str.join z (y :: r)).length ≤ _
    rw [slen, slen]
    simp only [List.map_cons, List.sum_cons, List.length_cons, Nat.add_mul, Nat.one_mul] at ih ⊢
    omega
theorem nsum_le {l : List Nat} {b : Nat} (h : ∀ x ∈ l, x ≤ b) : l.sum ≤ l.length * b := by
  induction l with
  | nil => simp
  | cons a l ih =>
    have h1 := h a (by simp)
    have h2 := ih fun x hx => h x (List.mem_cons_of_mem _ hx)
    simp only [List.sum_cons, List.length_cons, Nat.add_mul, Nat.one_mul]
    omega
/-- a default as it is shown -/
def valS : PyData → Str
  | .str w => Str.empty ++ "'" ++ w
  | .int i => toString i
  | _ => Str.empty
def pmS (p : Pm) : Str := if isNone p.v = true then Str.empty ++ p.n ++ ": " ++ p.s else Str.empty ++ p.n ++ ": " ++ p.s ++ " = " ++ valS p.v
def hookWords (ps qs : List Pm) : List Str := ps.map pmS ++ ((if qs = [] then [] else [Str.ofString "*"]) ++ qs.map pmS)
def hookS (kind name gives : Str) (ps qs : List Pm) : Str := Str.empty ++ kind ++ " " ++ name ++ "(" ++ Str.join ", " (hookWords ps qs) ++ ") -> " ++ gives
theorem sort_len {s : Str} (h : sortOk s) : s.length = 6 ∨ s.length = 4 := by rcases h with rfl | rfl <;> decide +kernel
theorem val_len {s : Str} {v : PyData} (h : valOk s v) : (valS v).length ≤ 20 := by
  rcases h with ⟨_, w, rfl, hw⟩ | ⟨_, k, rfl, h1, h2⟩
  · show (Str.empty ++ "'" ++ w).length ≤ 20
    rw [slen, slen]
    have := hw.2.1
    have e : (Str.empty).length = 0 := rfl
    have e2 : (Str.ofString "'").length = 1 := by decide +kernel
    omega
  · exact len_int (by omega) (by omega)
theorem pm_len {p : Pm} (hn : NameOk p.n) (hs : sortOk p.s) (hv : p.v = .none ∨ valOk p.s p.v) : (pmS p).length ≤ 40 := by
  have h1 := hn.2.1
  have h2 := sort_len hs
  have e : (Str.empty).length = 0 := rfl
  have e2 : (Str.ofString ": ").length = 2 := by decide +kernel
  have e3 : (Str.ofString " = ").length = 3 := by decide +kernel
  unfold pmS
  rcases hv with hv | hv
  · rw [hv, if_pos (show isNone .none = true from rfl), slen, slen, slen]
    omega
  · have h3 := val_len hv
    split
    · rw [slen, slen, slen]; omega
    · rw [slen, slen, slen, slen, slen]; omega
theorem words_len {kind outs : Str} {ps qs : List Pm} (h : HookOk kind ps qs outs) : (hookWords ps qs).length ≤ 4 ∧ ∀ x ∈ hookWords ps qs, x.length ≤ 40 := by
  have hl := h.len
  refine ⟨?_, fun x hx => ?_⟩
  · unfold hookWords
    split
    · rename_i e; subst e; simp at hl ⊢; omega
    · simp; omega
  · unfold hookWords at hx
    have hp : ∀ p ∈ ps ++ qs, (pmS p).length ≤ 40 := fun p hp => pm_len (h.nm p hp).1 (h.st p hp) (h.vl p hp)
    rcases List.mem_append.mp hx with hx | hx
    · obtain ⟨p, q, rfl⟩ := List.mem_map.mp hx
      exact hp p (List.mem_append_left _ q)
    rcases List.mem_append.mp hx with hx | hx
    · split at hx
      · cases hx
      · rw [List.mem_singleton.mp hx]; decide +kernel
    · obtain ⟨p, q, rfl⟩ := List.mem_map.mp hx
      exact hp p (List.mem_append_right _ q)
theorem words_join {kind outs : Str} {ps qs : List Pm} (h : HookOk kind ps qs outs) : ((hookWords ps qs).map (·.length)).sum + (hookWords ps qs).length * 2 ≤ 200 ∧ (Str.join ", " (hookWords ps qs)).length ≤ 200 := by
  obtain ⟨h1, h2⟩ := words_len h
  have h3 : ((hookWords ps qs).map (·.length)).sum ≤ ((hookWords ps qs).map (·.length)).length * 40 := nsum_le fun x hx => by
    obtain ⟨y, hy, rfl⟩ := List.mem_map.mp hx
    exact h2 y hy
  rw [List.length_map] at h3
  have h4 := join_len (Str.ofString ", ") (hookWords ps qs)
  have e : (Str.ofString ", ").length = 2 := by decide +kernel
  rw [e] at h4
  omega
theorem int_log {i : Int} (h1 : -1000 ≤ i) (h2 : i ≤ 1000) : i.natAbs.log2 < 1920 := log_small (n := i.natAbs) (by omega)
def spShownValue : List AV → Sto → Po → Prop := fun as S P => ∃ s v, as = [.dat v] ∧ valOk s v ∧ P (.dat (.str (valS v))) S
def spShownParam : List AV → Sto → Po → Prop := fun as S P => ∃ p : Pm, as = [.dat (.str p.n), .dat (.str p.s), .dat p.v] ∧ NameOk p.n ∧ sortOk p.s ∧ (p.v = .none ∨ valOk p.s p.v) ∧ P (.dat (.str (pmS p))) S
def spShownParams : List AV → Sto → Po → Prop := fun as S P => ∃ (kind outs : Str) (ps qs : List Pm), as = [.dat (.tuple (ps.map Pm.d)), .dat (.tuple (qs.map Pm.d))] ∧ HookOk kind ps qs outs ∧ P (.dat (.str (Str.join ", " (hookWords ps qs)))) S
def spHookStr (C : Addr) : List AV → Sto → Po → Prop := fun as S P => ∃ (q : Addr) (name kind gives : Str) (ps qs : List Pm), as = [.own q] ∧ HookOk kind ps qs gives ∧ NameOk name ∧ kindOk kind ∧ S q = some (.ins C (hookF name kind gives ps qs)) ∧ ∃ y : Str, y = hookS kind name gives ps qs ∧ P (.dat (.str y)) S
/-! ### the law's own telling -/
def pmL (p : Pm) : Str := match p.v with
  | .str w => p.n ++ ": " ++ p.s ++ " = '" ++ w
  | .int i => p.n ++ ": " ++ p.s ++ " = " ++ toString i
  | _ => p.n ++ ": " ++ p.s
theorem pmL_eq {p : Pm} (hv : p.v = .none ∨ valOk p.s p.v) : pmL p = pmS p := by
  unfold pmL pmS
  rcases hv with hv | ⟨_, w, hv, _⟩ | ⟨_, k, hv, _⟩
  · rw [hv, if_pos (show isNone .none = true from rfl), empty_app]
  · rw [hv, if_neg (by simp [isNone])]
    refine str_ext ?_
    show cs (p.n ++ ": " ++ p.s ++ " = '" ++ w) = cs (Str.empty ++ p.n ++ ": " ++ p.s ++ " = " ++ (Str.empty ++ "'" ++ w))
    have e : cs (Str.ofString " = '") = cs (Str.ofString " = ") ++ cs (Str.ofString "'") := by decide +kernel
    rw [empty_app, empty_app]
    simp only [cs_app, e, List.append_assoc]
  · rw [hv, if_neg (by simp [isNone]), empty_app]
    rfl
end Ov
namespace Ov
open PySem PySem.Spec PyProof.Rows L2
mutual
def noB : PyData → Bool
  | .none => true
  | .bool _ => false
  | .int _ => true
  | .str _ => true
  | .list xs => noBAll xs
  | .tuple xs => noBAll xs
  | .dict _ => false
def noBAll : List PyData → Bool
  | [] => true
  | x :: xs => noB x && noBAll xs
end
mutual
theorem eqv_eq : ∀ d e : PyData, noB d = true → noB e = true → PyData.eqv d e = true → d = e
  | .none, e, _, _, h => by cases e <;> simp [PyData.eqv] at h ⊢
  | .bool _, _, hd, _, _ => by simp [noB] at hd
  | .int i, e, _, he, h => by cases e <;> simp [PyData.eqv, noB] at h he ⊢ <;> exact h
  | .str x, e, _, _, h => by cases e <;> simp [PyData.eqv] at h ⊢; exact h
  | .list xs, e, hd, he, h => by
    cases e <;> simp [PyData.eqv] at h ⊢
    exact eqvAll_eq _ _ (by simpa [noB] using hd) (by simpa [noB] using he) h
  | .tuple xs, e, hd, he, h => by
    cases e <;> simp [PyData.eqv] at h ⊢
    exact eqvAll_eq _ _ (by simpa [noB] using hd) (by simpa [noB] using he) h
  | .dict _, _, hd, _, _ => by simp [noB] at hd
theorem eqvAll_eq : ∀ xs ys : List PyData, noBAll xs = true → noBAll ys = true → PyData.eqvAll xs ys = true → xs = ys
  | [], ys, _, _, h => by cases ys <;> simp [PyData.eqvAll] at h ⊢
  | x :: xs, ys, hd, he, h => by
    cases ys with
    | nil => simp [PyData.eqvAll] at h
    | cons y ys =>
      simp only [PyData.eqvAll, noBAll, Bool.and_eq_true] at h hd he
      rw [eqv_eq x y hd.1 he.1 h.1, eqvAll_eq xs ys hd.2 he.2 h.2]
end
/-! ## hooks with one thing otherwise -/
theorem HookOk.other {kind kind' outs outs' : Str} {ps qs : List Pm} (h : HookOk kind ps qs outs) (hk : kind' ≠ "through") (ho : sortOk outs') : HookOk kind' ps qs outs' :=
  ⟨h.len, h.nd, h.nm, h.st, h.vl, h.mono, fun e => absurd e hk, ho⟩
theorem HookOk.revQ {kind outs : Str} {ps qs : List Pm} (h : HookOk kind ps qs outs) : HookOk kind ps qs.reverse outs := by
  have hm : ∀ p, p ∈ ps ++ qs.reverse → p ∈ ps ++ qs := fun p hp => by simpa using hp
  have hp : ((ps ++ qs.reverse).map (·.n)).Perm ((ps ++ qs).map (·.n)) := (List.Perm.append_left _ (List.reverse_perm qs)).map _
  exact ⟨by rw [List.length_reverse]; exact h.len, hp.nodup_iff.mpr h.nd, fun p hp => h.nm p (hm p hp), fun p hp => h.st p (hm p hp), fun p hp => h.vl p (hm p hp), h.mono, h.thr, h.outs⟩
theorem HookOk.shift {kind outs : Str} {init qs : List Pm} {p : Pm} (h : HookOk kind (init ++ [p]) qs outs) (hk : kind ≠ "through") : HookOk kind init (p :: qs) outs := by
  have e : init ++ [p] ++ qs = init ++ p :: qs := by simp
  refine ⟨by have := h.len; simp at this ⊢; omega, by rw [← e]; exact h.nd, by rw [← e]; exact h.nm, by rw [← e]; exact h.st, by rw [← e]; exact h.vl, fun i j a b hij ha hb => ?_, fun z => absurd z hk, h.outs⟩
  have hi : i < init.length := (List.getElem?_eq_some_iff.mp ha).1
  have hj : j < init.length := (List.getElem?_eq_some_iff.mp hb).1
  exact h.mono i j a b hij (by rw [List.getElem?_append_left hi]; exact ha) (by rw [List.getElem?_append_left hj]; exact hb)
theorem HookOk.lastP {kind outs : Str} {init qs : List Pm} {p : Pm} {v : PyData} (h : HookOk kind (init ++ [p]) qs outs) (hp : p.v ≠ .none) (hv : valOk p.s v) : HookOk kind (init ++ [⟨p.n, p.s, v⟩]) qs outs := by
  have hm : ∀ q, q ∈ init ++ [⟨p.n, p.s, v⟩] ++ qs → q = ⟨p.n, p.s, v⟩ ∨ q ∈ init ++ [p] ++ qs := fun q hq => by
    simp only [List.mem_append, List.mem_singleton] at hq ⊢
    rcases hq with (h1 | h1) | h1
    · exact .inr (.inl (.inl h1))
    · exact .inl h1
    · exact .inr (.inr h1)
  have hpm : p ∈ init ++ [p] ++ qs := by simp
  refine ⟨by have := h.len; simp at this ⊢; omega, ?_, fun q hq => ?_, fun q hq => ?_, fun q hq => ?_, fun i j a b hij ha hb hav => ?_, fun z => ?_, h.outs⟩
  · have := h.nd
    simpa using this
  · rcases hm q hq with rfl | hq
    · exact h.nm p hpm
    · exact h.nm q hq
  · rcases hm q hq with rfl | hq
    · exact h.st p hpm
    · exact h.st q hq
  · rcases hm q hq with rfl | hq
    · exact .inr hv
    · exact h.vl q hq
  · have hj : j < (init ++ [(⟨p.n, p.s, v⟩ : Pm)]).length := (List.getElem?_eq_some_iff.mp hb).1
    simp at hj
    by_cases hjl : j = init.length
    · subst hjl
      simp at hb
      rw [← hb]
      exact hv.ne
    · have hj2 : j < init.length := by omega
      rw [List.getElem?_append_left hj2] at hb
      rw [List.getElem?_append_left (by omega)] at ha
      exact h.mono i j a b hij (by rw [List.getElem?_append_left (by omega)]; exact ha) (by rw [List.getElem?_append_left hj2]; exact hb) hav
  · obtain ⟨p0, r, e, e1, e2⟩ := h.thr z
    cases init with
    | nil =>
      simp at e
      rw [e.1] at hp
      exact absurd e1 hp
    | cons a l =>
      have e' : a = p0 := by simp at e; exact e.1
      subst e'
      exact ⟨a, l ++ [⟨p.n, p.s, v⟩], rfl, e1, e2⟩
theorem HookOk.lastQ {kind outs : Str} {ps init : List Pm} {p : Pm} {v : PyData} (h : HookOk kind ps (init ++ [p]) outs) (hv : v = .none ∨ valOk p.s v) : HookOk kind ps (init ++ [⟨p.n, p.s, v⟩]) outs := by
  have hm : ∀ q, q ∈ ps ++ (init ++ [⟨p.n, p.s, v⟩]) → q = ⟨p.n, p.s, v⟩ ∨ q ∈ ps ++ (init ++ [p]) := fun q hq => by
    simp only [List.mem_append, List.mem_singleton] at hq ⊢
    rcases hq with h1 | h1 | h1
    · exact .inr (.inl h1)
    · exact .inr (.inr (.inl h1))
    · exact .inl h1
  have hpm : p ∈ ps ++ (init ++ [p]) := by simp
  refine ⟨by have := h.len; simp at this ⊢; omega, ?_, fun q hq => ?_, fun q hq => ?_, fun q hq => ?_, h.mono, h.thr, h.outs⟩
  · have := h.nd
    simpa using this
  · rcases hm q hq with rfl | hq
    · exact h.nm p hpm
    · exact h.nm q hq
  · rcases hm q hq with rfl | hq
    · exact h.st p hpm
    · exact h.st q hq
  · rcases hm q hq with rfl | hq
    · exact hv
    · exact h.vl q hq
theorem last_of {α : Type} {l : List α} (h : l ≠ []) : ∃ init p, l = init ++ [p] := ⟨l.dropLast, l.getLast h, (List.dropLast_concat_getLast h).symm⟩
theorem eqv_nil {l : List Pm} : PyData.eqv (.list (l.map Pm.d)) (.list []) = decide (l = []) := by
  cases l with
  | nil => simp [PyData.eqv, PyData.eqvAll]
  | cons a l => simp [PyData.eqv, PyData.eqvAll]
def spHookOf (C : Addr) : List AV → Sto → Po → Prop := fun as S P => ∃ (name kind outs : Str) (ps qs : List Pm), as = [.dat (hookD name kind ps qs outs)] ∧ HookOk kind ps qs outs ∧ NameOk name ∧ kindOk kind ∧ ∀ q, S q = none → P (.own q) (S.set q (.ins C (hookF name kind outs ps qs)))
def spWords : List AV → Sto → Po → Prop := fun as S P => ∃ ps : List Pm, as = [.dat (.list (ps.map Pm.d))] ∧ ps.length ≤ 3 ∧ (∀ p ∈ ps, NameOk p.n ∧ sortOk p.s ∧ (p.v = .none ∨ valOk p.s p.v)) ∧ P (.dat (.list ((ps.map pmS).map PyData.str))) S
def spText : List AV → Sto → Po → Prop := fun as S P => ∃ (name kind outs : Str) (ps qs : List Pm), as = [.dat (hookD name kind ps qs outs)] ∧ HookOk kind ps qs outs ∧ NameOk name ∧ kindOk kind ∧ ∃ y : Str, y = hookS kind name outs ps qs ∧ P (.dat (.str y)) S
def spLike : List AV → Sto → Po → Prop := fun as S P => ∃ (d g : Addr) (name kind outs : Str) (ps qs : List Pm), as = [.own d, .dat (hookD name kind ps qs outs)] ∧ HookOk kind ps qs outs ∧ NameOk name ∧ kindOk kind ∧ Box d g S ∧
  ∀ (name' kind' outs' : Str) (ps' qs' : List Pm) S', HookOk kind' ps' qs' outs' → NameOk name' → kindOk kind' → Box d g S' → Only2 d g S S' → P (.dat (hookD name' kind' ps' qs' outs')) S'
theorem hookD_plain {name kind outs : Str} {ps qs : List Pm} (h : HookOk kind ps qs outs) (hn : NameOk name) (hk : kindOk kind) : plainD (hookD name kind ps qs outs) = true := by
  have low : ∀ x : Str, (∀ c ∈ cs x, lower c) → plainD (.str x) = true := fun x hx => by
    simp only [plainD, List.all_eq_true]
    exact fun c hc => decide_eq_true (hx c hc)
  have pm : ∀ p : Pm, NameOk p.n → sortOk p.s → (p.v = .none ∨ valOk p.s p.v) → plainD p.d = true := fun p a b c => by
    have hb : plainD (.str p.s) = true := by rcases b with e | e <;> (rw [e]; decide +kernel)
    have hv : plainD p.v = true := by
      rcases c with e | ⟨_, w, e, hw⟩ | ⟨_, i, e, _⟩
      · rw [e]; simp [plainD]
      · rw [e]; exact low w hw.2.2
      · rw [e]; simp [plainD]
    have ha := low p.n a.2.2
    show (plainD (.str p.n) && (plainD (.str p.s) && (plainD p.v && true))) = true
    rw [ha, hb, hv]
    rfl
  have all : ∀ l : List Pm, (∀ p ∈ l, p ∈ ps ++ qs) → plainAllD (l.map Pm.d) = true := by
    intro l
    induction l with
    | nil => intro _; simp [plainAllD]
    | cons a l ih =>
      intro hl
      have ha := hl a (by simp)
      simp [plainAllD, pm a (h.nm a ha).1 (h.st a ha) (h.vl a ha), ih fun p hp => hl p (List.mem_cons_of_mem _ hp)]
  have h1 := low name hn.2.2
  have h2 : plainD (.str kind) = true := by rcases hk with e | e | e <;> (rw [e]; decide +kernel)
  have h3 : plainD (.str outs) = true := by rcases h.outs with e | e <;> (rw [e]; decide +kernel)
  have h4 := all ps fun p hp => List.mem_append_left _ hp
  have h5 := all qs fun p hp => List.mem_append_right _ hp
  show (plainD (.str name) && (plainD (.str kind) && (plainAllD (ps.map Pm.d) && (plainAllD (qs.map Pm.d) && (plainD (.str outs) && true))))) = true
  rw [h1, h2, h3, h4, h5]
  rfl
/-- hooks are equal exactly if what the law tells of them is shown alike -/
theorem hookEq_shown {n k g n' k' g' : Str} {ps qs ps' qs' : List Pm} (h : HookOk k ps qs g) (hn : NameOk n) (hk : kindOk k) (h' : HookOk k' ps' qs' g') (hn' : NameOk n') (hk' : kindOk k') :
    hookEq n k g ps qs n' k' g' ps' qs' = decide ((hookD n k ps qs g).shown = (hookD n' k' ps' qs' g').shown) := by
  have inj : ∀ (l m : List Pm), l.map Pm.d = m.map Pm.d → l = m := by
    intro l
    induction l with
    | nil => intro m e; cases m with | nil => rfl | cons => simp at e
    | cons a l ih =>
      intro m e
      cases m with
      | nil => simp at e
      | cons b m =>
        simp only [List.map_cons, List.cons.injEq, Pm.d] at e
        obtain ⟨e1, e2⟩ := e
        injection e1 with e1
        simp only [List.cons.injEq, PyData.str.injEq, and_true] at e1
        rw [ih m e2]
        cases a; cases b
        simp at e1
        simp [e1]
  by_cases e : (hookD n k ps qs g).shown = (hookD n' k' ps' qs' g').shown
  · rw [decide_eq_true e]
    have e2 := shown_inj (hookD_plain h hn hk) (hookD_plain h' hn' hk') e
    unfold hookD at e2
    injection e2 with e2
    simp only [List.cons.injEq, PyData.str.injEq, PyData.list.injEq, and_true] at e2
    obtain ⟨a1, a2, a3, a4, a5⟩ := e2
    have b3 := inj _ _ a3
    have b4 := inj _ _ a4
    subst a1 a2 a5 b3 b4
    unfold hookEq
    rw [SeqAt.eqv_refl _ (by have := sh_pms h (l := ps) fun p hp => List.mem_append_left _ hp; unfold SeqAt.shaped at this; rw [Bool.and_eq_true] at this; exact this.1),
      SeqAt.eqv_refl _ (by have := sh_pms h (l := qs) fun p hp => List.mem_append_right _ hp; unfold SeqAt.shaped at this; rw [Bool.and_eq_true] at this; exact this.1)]
    simp
  · rw [decide_eq_false e]
    rw [Bool.eq_false_iff]
    intro z
    apply e
    unfold hookEq at z
    simp only [Bool.and_eq_true, decide_eq_true_eq] at z
    obtain ⟨a1, a2, a3, a4, a5⟩ := z
    subst a1 a2 a5
    have nb : ∀ (l m : List Pm) (kind outs : Str), HookOk kind l m outs → noBAll (l.map Pm.d) = true ∧ noBAll (m.map Pm.d) = true := fun l m kind outs hl => by
      have go : ∀ r : List Pm, (∀ p ∈ r, p ∈ l ++ m) → noBAll (r.map Pm.d) = true := by
        intro r
        induction r with
        | nil => intro _; simp [noBAll]
        | cons a r ih =>
          intro hr
          have ha := hl.vl a (hr a (by simp))
          have hv : noB a.v = true := by
            rcases ha with e | ⟨_, w, e, _⟩ | ⟨_, i, e, _⟩ <;> (rw [e]; simp [noB])
          simp [noBAll, Pm.d, noB, hv, ih fun p hp => hr p (List.mem_cons_of_mem _ hp)]
      exact ⟨go l fun p hp => List.mem_append_left _ hp, go m fun p hp => List.mem_append_right _ hp⟩
    have b1 := nb ps qs _ _ h
    have b2 := nb ps' qs' _ _ h'
    have e3 := inj _ _ (eqvAll_eq _ _ b1.1 b2.1 (by simpa [PyData.eqv] using a3))
    have e4 := inj _ _ (eqvAll_eq _ _ b1.2 b2.2 (by simpa [PyData.eqv] using a4))
    rw [e3, e4]
theorem told_self (ps : List Pm) : ToldAll ps (ps.map Pm.d) := ⟨by simp, fun i p d h1 h2 => .inl (by rw [List.getElem?_map, h1] at h2; cases h2; rfl)⟩
theorem sh_pmsL {kind outs : Str} {ps qs : List Pm} (h : HookOk kind ps qs outs) : SeqAt.shaped (.list (qs.map Pm.d)) = true := sh_list fun x hx => by
  obtain ⟨p, hp, rfl⟩ := List.mem_map.mp hx
  have hp' : p ∈ ps ++ qs := List.mem_append_right _ hp
  exact pm_lay (h.nm p hp').1 (h.st p hp') (h.vl p hp')
theorem sh_pmsL' {kind outs : Str} {ps qs : List Pm} (h : HookOk kind ps qs outs) : SeqAt.shaped (.list (ps.map Pm.d)) = true := sh_list fun x hx => by
  obtain ⟨p, hp, rfl⟩ := List.mem_map.mp hx
  have hp' : p ∈ ps ++ qs := List.mem_append_left _ hp
  exact pm_lay (h.nm p hp').1 (h.st p hp') (h.vl p hp')
def kindL : List PyData := [.str "first", .str "through", .str "each"]
theorem kindL_at {j : Nat} {x : PyData} (h : kindL[j]? = some x) : ∃ s, x = .str s ∧ kindOk s := by
  have hm := List.mem_of_getElem? h
  unfold kindL at hm
  rcases List.mem_cons.mp hm with e | hm
  · exact ⟨_, e, .inl rfl⟩
  rcases List.mem_cons.mp hm with e | hm
  · exact ⟨_, e, .inr (.inl rfl)⟩
  · exact ⟨_, by simpa using hm, .inr (.inr rfl)⟩
theorem hookD_shows {name kind outs : Str} {ps qs : List Pm} (h : HookOk kind ps qs outs) (hn : NameOk name) (hk : kindOk kind) : (hookD name kind ps qs outs).showable = true ∧ (hookD name kind ps qs outs).hasDict = false ∧ (hookD name kind ps qs outs).depth ≤ 60 ∧ (hookD name kind ps qs outs).shown.length ≤ 10000000 := by
  have hl := h.len
  have pm : ∀ l : List Pm, (∀ p ∈ l, p ∈ ps ++ qs) → fitAll (l.map Pm.d) = true ∧ cstAll (l.map Pm.d) ≤ 305 * l.length ∧ PyData.depthAll (l.map Pm.d) ≤ 1 := by
    intro l
    induction l with
    | nil => intro _; exact ⟨by simp [fitAll], by simp [cstAll], by simp [PyData.depthAll]⟩
    | cons a l ih =>
      intro hm
      have ha := hm a (by simp)
      obtain ⟨a1, a2, a3⟩ := pm_fit (h.nm a ha).1 (h.st a ha) (h.vl a ha)
      obtain ⟨b1, b2, b3⟩ := ih fun p hp => hm p (List.mem_cons_of_mem _ hp)
      refine ⟨by simp [fitAll, a1, b1], ?_, ?_⟩
      · simp only [List.map_cons, cstAll, List.length_cons]; omega
      · simp only [List.map_cons, PyData.depthAll]; omega
  obtain ⟨a1, a2, a3⟩ := pm ps fun p hp => List.mem_append_left _ hp
  obtain ⟨b1, b2, b3⟩ := pm qs fun p hp => List.mem_append_right _ hp
  obtain ⟨k1, k2⟩ := kind_fit hk
  obtain ⟨o1, o2⟩ := sort_fit h.outs
  have hf : fit (hookD name kind ps qs outs) = true := by
    simp [hookD, fit, fitAll, hn.sok, hn.2.1, k1, k2, o1, o2, a1, b1]
  obtain ⟨s1, s2, s3⟩ := shown_le _ hf
  refine ⟨s2, s3, ?_, ?_⟩
  · simp only [hookD, PyData.depth, PyData.depthAll]; omega
  · have hc : cst (hookD name kind ps qs outs) ≤ 5000 := by
      simp only [hookD, cst, cstAll]; omega
    omega
theorem w2_neB_same {K : PySem.W.Frag} {S : Sto} {P : Po} {i j : Bool} (h : i = j) (p : P (.dat (.bool false)) S) : W2 K (rNeA K) (.dat (.bool i)) (.dat (.bool j)) S P := w2_neB (by subst h; rw [bne_self_eq_false]; exact p)
theorem w2_neS_same {K : PySem.W.Frag} {S : Sto} {P : Po} {i j : Str} (h : i = j) (p : P (.dat (.bool false)) S) : W2 K (rNeA K) (.dat (.str i)) (.dat (.str j)) S P := w2_neS (by rw [decide_eq_true h]; exact p)
theorem w2_eqO' {K : PySem.W.Frag} {S : Sto} {P : Po} {b : AV} {C p : Addr} {fs : List (Str × AV)} {spec : List AV → Sto → Po → Prop} (hp : S p = some (.ins C fs)) (hb : TyA K S C b)
    (h : spec [.own p, b] S fun v S' => ∃ c : Bool, v = .dat (.bool c) ∧ P (.dat (.bool c)) S') : W2 K (rEqO K C (SpA K 2 spec) false) (.own p) b S P := w2_eqO (neg := false) hp hb h
end Ov
namespace Ov
open PySem PySem.Spec PyProof.Rows L2
/-! ## values that are never changed -/
def cvA : CV → AV
  | .dat d => .dat d
  | c => .cv c
def cvAs (cs : List CV) : List AV := cs.map cvA
/-- the value as one that is never changed -/
def cvO : AV → Option CV
  | .dat d => some (.dat d)
  | .cv c => some c
  | _ => none
def cvOs : List AV → Option (List CV)
  | [] => some []
  | a :: as => (cvO a).bind fun c => (cvOs as).map fun cs => c :: cs
section
variable {K : PySem.W.Frag} {S S' : Sto} {H H' : Hp} {v : V} {a : AV} {c : CV} {cs : List CV}
theorem ra_of (h : RC K (msk S H) v c) : RA K S H v (cvA c) := by
  cases c with
  | dat d => cases h with | dat h => exact h
  | obj C fs => exact h
  | tup xs => exact h
  | lst xs => exact h
theorem rc_of (e : cvO a = some c) (h : RA K S H v a) : RC K (msk S H) v c := by
  cases a with
  | dat d => cases e; exact .dat h
  | cv c' => cases e; exact h
  | own _ => cases e
  | ty _ => cases e
  | scr _ => cases e
theorem rcs_of : ∀ {as : List AV} {vs : List V} {cs : List CV}, cvOs as = some cs → RAs K S H vs as → RCs K (msk S H) vs cs
  | [], _, _, e, r => by cases e; cases r; exact .nil
  | a :: as, _, _, e, r => by
    cases r with
    | cons r1 r2 =>
      unfold cvOs at e
      cases ha : cvO a with
      | none => rw [ha] at e; cases e
      | some c =>
        cases hs : cvOs as with
        | none => rw [ha, hs] at e; cases e
        | some cs =>
          rw [ha, hs] at e
          cases e
          exact .cons (rc_of ha r1) (rcs_of hs r2)
theorem ras_of : ∀ {vs : List V} {cs : List CV}, RCs K (msk S H) vs cs → RAs K S H vs (cvAs cs)
  | _, _, .nil => .nil
  | _, _, .cons h r => .cons (ra_of h) (ras_of r)
theorem RCs.len : ∀ {vs : List V} {cs : List CV}, RCs K H vs cs → vs.length = cs.length
  | _, _, .nil => rfl
  | _, _, .cons _ r => congrArg (· + 1) (RCs.len r)
theorem RCs.get : ∀ {vs : List V} {cs : List CV} {i : Nat} {c : CV}, RCs K H vs cs → cs[i]? = some c → ∃ v, vs[i]? = some v ∧ RC K H v c
  | _, _, _, _, .nil, e => by simp at e
  | _, _, 0, _, .cons h _, e => by simp at e; subst e; exact ⟨_, rfl, h⟩
  | _, _, i + 1, _, .cons _ r, e => by
    obtain ⟨u, h1, h2⟩ := RCs.get (i := i) r (by simpa using e)
    exact ⟨u, by simpa using h1, h2⟩
theorem RCs.at_ : ∀ {vs : List V} {cs : List CV} {i : Nat} {v : V}, RCs K H vs cs → vs[i]? = some v → ∃ c, cs[i]? = some c ∧ RC K H v c
  | _, _, _, _, .nil, e => by simp at e
  | _, _, 0, _, .cons h _, e => by simp at e; subst e; exact ⟨_, rfl, h⟩
  | _, _, i + 1, _, .cons _ r, e => by
    obtain ⟨u, h1, h2⟩ := RCs.at_ (i := i) r (by simpa using e)
    exact ⟨u, by simpa using h1, h2⟩
theorem RCf.get {f : Str} : ∀ {fs : List (Str × V)} {gs : List (Str × CV)} {c : CV}, RCf K H fs gs → gs.lookup f = some c → ∃ v, fs.lookup f = some v ∧ RC K H v c
  | _, _, _, .nil, e => by cases e
  | _, _, c, @RCf.cons _ _ k v a vs as r t, e => by
    rw [List.lookup_cons] at e ⊢
    by_cases h : (f == k) = true
    · rw [h] at e ⊢
      cases e
      exact ⟨v, rfl, r⟩
    · have h' : (f == k) = false := by simpa using h
      rw [h'] at e ⊢
      exact RCf.get t e
theorem dats_cv (ds : List PyData) : dats ds = cvAs (ds.map CV.dat) := by simp [dats, cvAs, cvA]
end
section
variable {K : PySem.W.Frag} {S : Sto} {δ : Dl} {P : Po} {R : Rr} {a b : AV} {c : CV} {cs : List CV} {te ta : TE} {tas : TA} {t : TS} {g : TG} {gs : TGs} {C : Addr} {fs : List (Str × CV)}
/-! ### made -/
theorem we_tupC (h : WA K tas δ S fun as S1 => ∃ cs, cvOs as = some cs ∧ cs.length ≤ 100000 ∧ P (.cv (.tup cs)) S1) : WE K (tTup tas) δ S P := fun σ H Q rs s k =>
  h σ H _ rs s fun xs H1 as S1 g1 r1 ⟨cs, e, hl, p⟩ => by
    have rc := rcs_of e r1
    refine ⟨Nat.le_trans (by rw [rc.len]; exact hl) (by decide), fun q hq => ?_⟩
    have g2 := Go.new (o := .tup xs) g1.rs hq
    exact k _ _ (.cv (.tup cs)) S1 (g1.trans g2) (RC.tup (SqT.of (msk_new g1.rs hq)) (rc.up g2.ex)) p
theorem we_lstC (h : WA K tas δ S fun as S1 => ∃ cs, cvOs as = some cs ∧ cs.length ≤ 100000 ∧ P (.cv (.lst cs)) S1) : WE K (tLst tas) δ S P := fun σ H Q rs s k =>
  h σ H _ rs s fun xs H1 as S1 g1 r1 ⟨cs, e, hl, p⟩ => by
    have rc := rcs_of e r1
    refine ⟨Nat.le_trans (by rw [rc.len]; exact hl) (by decide), fun q hq => ?_⟩
    have g2 := Go.new (o := .lst xs) g1.rs hq
    exact k _ _ (.cv (.lst cs)) S1 (g1.trans g2) (RC.lst (msk_new g1.rs hq) (rc.up g2.ex)) p
/-! ### read -/
theorem w2_ixC {i : Nat} (hc : a = .cv (.tup cs) ∨ a = .cv (.lst cs)) (e : cs[i]? = some c) (p : P (cvA c) S) : W2 K (rIx K) a (.dat (.int i)) S P := fun x y H Q rs ra rb k => by
  cases rb
  rcases hc with rfl | rfl
  · cases ra with
    | @tup t xs _ h1 h2 =>
      obtain ⟨v, q1, q2⟩ := h2.get e
      exact .inr (.inl ⟨t, xs, i, v, rfl, rfl, ex_t msk_ex h1, atI_nat q1, k v H (cvA c) S (Go.refl rs) (ra_of q2) p⟩)
  · cases ra with
    | @lst t xs _ h1 h2 =>
      obtain ⟨v, q1, q2⟩ := h2.get e
      exact .inl ⟨t, xs, i, v, rfl, rfl, SqL.of (msk_ex _ _ h1), atI_nat q1, k v H (cvA c) S (Go.refl rs) (ra_of q2) p⟩
theorem wg_tupC {n : Nat} {P : Dl → Sto → Prop} (e : cs.length = n) (h : WGs K gs (cvAs cs) δ S P) : WG K (gTup K n gs) (.cv (.tup cs)) δ S P := fun v σ H Q rs s r k => by
  cases r with
  | tup h1 h2 => exact ⟨_, _, rfl, ex_t msk_ex h1, h2.len.trans e, h _ σ H Q rs s (ras_of h2) k⟩
theorem we_fldC {f : Str} (hcl : Cls K C) (hn : NoAttr K C f) (h : WE K ta δ S fun a S1 => ∃ fs c, a = .cv (.obj C fs) ∧ fs.lookup f = some c ∧ P (cvA c) S1) : WE K (tFld K ta f) δ S P := fun σ H Q rs s k =>
  h σ H _ rs s fun x H1 a S1 g1 r1 ⟨fs, c, e1, e2, p⟩ => by
    subst e1
    cases r1 with
    | @obj q _ dx vs _ h1 h2 =>
      obtain ⟨v, v1, v2⟩ := h2.get e2
      exact ⟨q, C, dx, vs, v, rfl, msk_ex _ _ h1, hcl, hn, v1, k v H1 (cvA c) S1 g1 (ra_of v2) p⟩
/-! ### given free: never changed from here on -/
def cvF : List (Str × AV) → Option (List (Str × CV))
  | [] => some []
  | (k, a) :: as => (cvO a).bind fun c => (cvF as).map fun cs => (k, c) :: cs
theorem rcf_of {H : Hp} : ∀ {as : List (Str × AV)} {vs : List (Str × V)} {cs : List (Str × CV)}, cvF as = some cs → RFs K S H vs as → RCf K (msk S H) vs cs
  | [], _, _, e, r => by cases e; cases r; exact .nil
  | (k, a) :: as, _, _, e, r => by
    cases r with
    | cons r1 r2 =>
      unfold cvF at e
      cases ha : cvO a with
      | none => rw [ha] at e; cases e
      | some c =>
        cases hs : cvF as with
        | none => rw [ha, hs] at e; cases e
        | some cs =>
          rw [ha, hs] at e
          cases e
          exact .cons (rc_of ha r1) (rcf_of hs r2)
theorem WE.freezeO (h : WE K te δ S fun a S1 => ∃ q as C fs, a = .own q ∧ S1 q = some (.ins C as) ∧ cvF as = some fs ∧ P (.cv (.obj C fs)) (S1.del q)) : WE K te δ S P := fun σ H Q rs s k =>
  h σ H _ rs s fun x H1 a S1 g1 r1 ⟨q, as, C, fs, e, hq, hf, p⟩ => by
    subst e
    cases r1
    obtain ⟨dx, vs, h1, h2⟩ := g1.rs q _ hq
    have gf := Go.free q g1.rs
    have hp : msk (S1.del q) H1 q = some (.ins C dx vs) := by unfold msk; rw [del_same]; exact h1
    exact k _ H1 (.cv (.obj C fs)) _ (g1.trans gf) (RC.obj hp (rcf_of hf (h2.up gf.ex))) p
/-! ### walked -/
/-- the walk J gives the n values f 0, f 1, .. as long as what stood when it began stands -/
def AWalk (K : PySem.W.Frag) (S : Sto) (H : Hp) (J : It) (n : Nat) (f : Nat → AV) : Prop := ∃ (G : Hp → Prop) (Y : Nat → Hp → V → Hp → Prop), Walk J n G Y ∧ (∀ S' H', Go K S H S' H' → G H') ∧
  ∀ i S' H' x H'', i < n → Go K S H S' H' → Y i H' x H'' → Go K S' H' S' H'' ∧ RA K S' H'' x (f i)
def WW (K : PySem.W.Frag) (wi : TI) (δ : Dl) (S : Sto) (P : Nat → (Nat → AV) → Sto → Prop) : Prop := ∀ (σ : L2.St) (H : Hp) (R : It → Hp → Prop), RS K S H → Sl K S H σ δ → (∀ J H1 S1 n f, Go K S H S1 H1 → AWalk K S1 H1 J n f → P n f S1 → R J H1) → wi σ H R
theorem ww_of {wi : TI} {P : Nat → (Nat → AV) → Sto → Prop} (h : WI K wi δ S fun n f S1 => P n (fun i => .dat (f i)) S1) : WW K wi δ S P := fun σ H R rs s k =>
  h σ H R rs s fun J H1 S1 n f g ⟨G, Y, w, hG, hY⟩ p => k J H1 S1 n (fun i => .dat (f i)) g ⟨G, Y, w, hG, hY⟩ p
def atA (as : List AV) (i : Nat) : AV := as.getD i (.dat .none)
theorem ra_at {S' : Sto} {H : Hp} {vs : List V} {as : List AV} {i : Nat} {x : V} (h : RAs K S' H vs as) (e : vs[i]? = some x) : RA K S' H x (atA as i) := by
  have hi : i < vs.length := (List.getElem?_eq_some_iff.mp e).1
  have hl := h.len
  have e2 : as[i]? = some (as[i]'(by omega)) := List.getElem?_eq_getElem (by omega)
  obtain ⟨v, q1, q2⟩ := h.get e2
  rw [e] at q1
  cases q1
  unfold atA
  rw [List.getD_eq_getElem?_getD, e2]
  exact q2
theorem ww_tupC {P : Nat → (Nat → AV) → Sto → Prop} (h : WE K te δ S fun a S1 => ∃ cs, a = .cv (.tup cs) ∧ P cs.length (atA (cvAs cs)) S1) : WW K (iTup K te) δ S P := fun σ H R rs s k =>
  h σ H _ rs s fun v H1 a S1 g1 r1 ⟨cs, e, p⟩ => by
    subst e
    cases r1 with
    | @tup a xs _ h1 h2 =>
      refine ⟨a, rfl, ⟨xs, ex_t msk_ex h1⟩, k _ H1 S1 cs.length _ g1 ⟨fun H => SqT K H a xs, YAt xs, h2.len ▸ walk_tup, fun S' H' g => ex_t (g.ex.trans msk_ex) h1, fun i S' H' x H'' hi g y => ?_⟩ p⟩
      obtain ⟨e, q⟩ := y
      subst e
      exact ⟨Go.refl g.rs, ra_at (ras_of (h2.up g.ex)) q⟩
theorem ww_lstC {P : Nat → (Nat → AV) → Sto → Prop} (h : WE K te δ S fun a S1 => ∃ cs, a = .cv (.lst cs) ∧ P cs.length (atA (cvAs cs)) S1) : WW K (iList K te) δ S P := fun σ H R rs s k =>
  h σ H _ rs s fun v H1 a S1 g1 r1 ⟨cs, e, p⟩ => by
    subst e
    cases r1 with
    | @lst a xs _ h1 h2 =>
      refine ⟨a, rfl, ⟨xs, SqL.of (msk_ex _ _ h1)⟩, k _ H1 S1 cs.length _ g1 ⟨fun H => SqL K H a xs, YAt xs, h2.len ▸ walk_list, fun S' H' g => SqL.of (msk_ex _ _ (g.ex _ _ h1)), fun i S' H' x H'' hi g y => ?_⟩ p⟩
      obtain ⟨e, q⟩ := y
      subst e
      exact ⟨Go.refl g.rs, ra_at (ras_of (h2.up g.ex)) q⟩
/-- a written tuple, of anything -/
theorem ww_tupT {P : Nat → (Nat → AV) → Sto → Prop} (h : WA K tas δ S fun as S1 => as.length ≤ 100000 ∧ P as.length (atA as) S1) : WW K (iTup K (tTup tas)) δ S P := fun σ H R rs s k =>
  h σ H _ rs s fun xs H1 as S1 g1 r1 ⟨hl, p⟩ => by
    refine ⟨Nat.le_trans (by rw [r1.len]; exact hl) (by decide), fun q hq => ?_⟩
    have g2 := Go.new (o := .tup xs) g1.rs hq
    have hq2 : msk S1 (upd H1 q (.tup xs)) q = some (.tup xs) := msk_new g1.rs hq
    refine ⟨q, rfl, ⟨xs, SqT.of (msk_ex _ _ hq2)⟩, k _ _ S1 as.length _ (g1.trans g2) ⟨fun H => SqT K H q xs, YAt xs, r1.len ▸ walk_tup, fun S' H' g => SqT.of (msk_ex _ _ (g.ex _ _ hq2)), fun i S' H' x H'' hi g y => ?_⟩ p⟩
    obtain ⟨e, z⟩ := y
    subst e
    exact ⟨Go.refl g.rs, ra_at ((r1.up (g2.trans g).ex)) z⟩
/-- a for over anything that WW serves -/
theorem ws_forA {wi : TI} (h : WW K wi δ S fun n f S1 => ∃ I : Nat → Dl → Sto → Prop, I 0 δ S1 ∧
    (∀ i δ' S', i < n → I i δ' S' → WG K g (f i) δ' S' fun δ2 S2 => WS K t δ2 S2 { R with nx := I (i + 1), ct := I (i + 1), bk := R.nx }) ∧ ∀ δ' S', I n δ' S' → R.nx δ' S') : WS K (tFor wi g t) δ S R := fun σ H D rs s f =>
  h σ H _ rs s fun J H1 S1 n fd g1 ⟨G, Y, w, hG, hY⟩ ⟨I, h0, hs, hd⟩ => by
    refine for_it w (fun i σ' H' => ∃ δ' S', Go K S1 H1 S' H' ∧ Sl K S' H' σ' δ' ∧ I i δ' S') ⟨δ, S1, Go.refl g1.rs, s.go g1, h0⟩ (fun i σ' H' _ ⟨δ', S', g', _, _⟩ => hG S' H' g') ?_ ?_
    · rintro i x σ' H' H'' hi ⟨δ', S', g', s', p⟩ y
      obtain ⟨g2, q⟩ := hY i S' H' x H'' hi g' y
      refine hs i δ' S' hi p x σ' H'' _ g2.rs (s'.go g2) q fun σ2 H2 δ2 S2 g3 s2 w2 => w2 σ2 H2 _ g3.rs s2 ?_
      have f2 := (f.go g1).go ((g'.trans g2).trans g3)
      exact ⟨fun σ3 H3 δ3 S3 g4 s3 q => ⟨δ3, S3, ((g'.trans g2).trans g3).trans g4, s3, q⟩, f2.rt, f2.nx, fun σ3 H3 δ3 S3 g4 s3 q => ⟨δ3, S3, ((g'.trans g2).trans g3).trans g4, s3, q⟩⟩
    · rintro σ' H' ⟨δ', S', g', s', p⟩
      exact f.nx σ' H' δ' S' (g1.trans g') s' (hd δ' S' p)
/-- a comprehension: what is made so far stands in the store at D -/
theorem we_lcA {wi : TI} {tt : TT} {vs : List Nat} (hw : Wip g vs) (h : WW K wi δ S fun n f S1 => n ≤ 100000 ∧ ∀ D, S1 D = none → ∃ I : Nat → List AV → Sto → Prop, I 0 [] (S1.set D (.lst [])) ∧
    (∀ i acc S', i < n → acc.length ≤ i → S' D = some (.lst acc) → I i acc S' → WG K g (f i) (wipeD δ vs) S' fun δ2 S2 => WT K tt δ2 S2 fun b S3 =>
      if b = true then WE K te δ2 S3 fun y S4 => S4 D = some (.lst acc) ∧ I (i + 1) (acc ++ [y]) (S4.set D (.lst (acc ++ [y]))) else S3 D = some (.lst acc) ∧ I (i + 1) acc S3) ∧
    ∀ acc S', acc.length ≤ n → S' D = some (.lst acc) → I n acc S' → P (.own D) S') : WE K (tLc wi g tt te vs) δ S P := fun σ H Q rs s k =>
  h σ H _ rs s fun J H1 S1 n fd g1 ⟨G, Y, w, hG, hY⟩ ⟨hn, hI⟩ D hD => by
    obtain ⟨I, h0, hs, hd⟩ := hI D (g1.rs.none_of hD)
    have g0 : Go K S1 H1 (S1.set D (.lst [])) (upd H1 D (.lst [])) := go_lst g1.rs .nil hD
    refine lc_it w (fun i H' => ∃ acc S', Go K S1 H1 S' H' ∧ acc.length ≤ i ∧ S' D = some (.lst acc) ∧ I i acc S') ⟨[], _, g0, Nat.le_refl _, set_same, h0⟩ (fun i H' _ ⟨acc, S', g', _⟩ => hG S' H' g') ?_ ?_
    · rintro i x H' H'' hi ⟨acc, S', g', hl, hD', p⟩ y
      obtain ⟨g2, q⟩ := hY i S' H' x H'' hi g' y
      have sw : Sl K S' H'' (wipe σ vs) (wipeD δ vs) := (((s.go g1).go g').go g2).wipe vs
      have z := hw x (wipe σ vs) H'' _ (hs i acc S' hi hl hD' p x (wipe σ vs) H'' (fun σ2 H2 => tt σ2 H2 fun b H3 => if b = true then te σ2 H3 fun y H4 => ∃ acc', H4 D = some (.lst acc') ∧ acc'.length < sizeLine ∧ (∃ acc2 S2, Go K S1 H1 S2 (upd H4 D (.lst (acc' ++ [y]))) ∧ acc2.length ≤ i + 1 ∧ S2 D = some (.lst acc2) ∧ I (i + 1) acc2 S2) else ∃ acc2 S2, Go K S1 H1 S2 H3 ∧ acc2.length ≤ i + 1 ∧ S2 D = some (.lst acc2) ∧ I (i + 1) acc2 S2) g2.rs sw q fun σ2 H2 δ2 S2 g3 s2 w2 => ?_)
      · revert z
        have e : wipe (wipe σ vs) vs = wipe σ vs := wipe_wipe σ vs vs fun _ h => h
        rw [e]
        exact fun z => z
      · refine w2 σ2 H2 _ g3.rs s2 fun b H3 S3 g4 w3 => ?_
        have gg := ((g'.trans g2).trans g3).trans g4
        cases b with
        | false =>
          obtain ⟨e1, e2⟩ := iteF' w3
          exact iteF ⟨acc, S3, gg, by omega, e1, e2⟩
        | true =>
          refine iteT ((iteT' w3) σ2 H3 _ g4.rs (s2.go g4) fun yv H4 ya S4 g5 r5 ⟨hD4, p5⟩ => ?_)
          obtain ⟨xs, q1, q2⟩ := g5.rs D _ hD4
          have hlen := q2.len
          refine ⟨xs, q1, ?_, acc ++ [ya], _, (gg.trans g5).trans (put_lst (p := D) g5.rs (q2.app (.cons r5 .nil)) (by rw [hD4]; rfl)), by simp; omega, set_same, p5⟩
          have : acc.length < 100000 := by omega
          rw [hlen]
          exact Nat.lt_of_lt_of_le this (by decide)
    · rintro H' ⟨acc, S', g', hl, hD', p⟩
      exact k _ H' (.own D) S' (g1.trans g') rfl (hd acc S' hl hD' p)
/-- a list of one's own, never changed from here on -/
theorem WE.freezeL (h : WE K te δ S fun a S1 => ∃ q as cs, a = .own q ∧ S1 q = some (.lst as) ∧ cvOs as = some cs ∧ P (.cv (.lst cs)) (S1.del q)) : WE K te δ S P := fun σ H Q rs s k =>
  h σ H _ rs s fun x H1 a S1 g1 r1 ⟨q, as, cs, e, hq, hf, p⟩ => by
    subst e
    cases r1
    obtain ⟨vs, h1, h2⟩ := g1.rs q _ hq
    have gf := Go.free q g1.rs
    have hp : msk (S1.del q) H1 q = some (.lst vs) := by unfold msk; rw [del_same]; exact h1
    exact k _ H1 (.cv (.lst cs)) _ (g1.trans gf) (RC.lst hp (rcs_of hf (h2.up gf.ex))) p
end
end Ov
namespace Ov
open PySem PySem.Spec PyProof.Rows L2
/-! ## instances as values: compared, shown, called, asked for their class -/
inductive TyC (K : PySem.W.Frag) (C : Addr) : AV → Prop
  | same {gs : List (Str × CV)} : TyC K C (.cv (.obj C gs))
  | other {D : Addr} {gs : List (Str × CV)} : ClsF K D → PySem.W.notFirst K C (.ref D) = true → TyC K C (.cv (.obj D gs))
  | dat {d : PyData} : PySem.W.notFirst K C (.type (tyD d)) = true → TyC K C (.dat d)
  | tup {cs : List CV} : PySem.W.notFirst K C (.type "tuple") = true → TyC K C (.cv (.tup cs))
theorem tyx_tup {K : PySem.W.Frag} {H : Hp} {a : Addr} {xs : List V} (h : SqT K H a xs) : TyX K H (.ref a) (.type "tuple") := by
  rcases h with (h | ⟨o, h⟩) | ⟨o, its, m, h, c, _⟩
  · exact .base (.tup h)
  · exact .fTuple h
  · exact .kTuple h c
section
variable {K : PySem.W.Frag} {S : Sto} {δ : Dl} {P : Po} {a b : AV} {C : Addr} {fs : List (Str × CV)} {spec : List AV → Sto → Po → Prop}
theorem w2_eqC {neg : Bool} (hb : TyC K C b) (h : spec [.cv (.obj C fs), b] S fun v S' => ∃ c : Bool, v = .dat (.bool c) ∧ P (.dat (.bool (if neg then !c else c))) S') : W2 K (rEqO K C (SpA K 2 spec) neg) (.cv (.obj C fs)) b S P := fun x y H Q rs ra rb k => by
  have ra' : RA K S H x (.cv (.obj C fs)) := ra
  cases ra with
  | @obj p _ dx vs _ q1 q2 =>
    have ty : ∃ t, (TyX K H y t ∨ ∃ dy gs, ∃ b, y = .ref b ∧ t = .ref C ∧ H b = some (.ins C dy gs)) ∧ PySem.W.notFirst K C t = true := by
      cases hb with
      | same =>
        cases rb with
        | obj z1 z2 => exact ⟨.ref C, .inr ⟨_, _, _, rfl, rfl, msk_ex _ _ z1⟩, by simp [PySem.W.notFirst]⟩
      | other hc hn =>
        cases rb with
        | obj z1 z2 => exact ⟨_, .inl (.base (.ins (msk_ex _ _ z1) hc.cl hc.ha hc.hn hc.ht hc.hm)), hn⟩
      | dat hn => exact ⟨_, .inl (ty_of nw_dat rs rb), hn⟩
      | tup hn =>
        cases rb with
        | tup z1 z2 => exact ⟨_, .inl (tyx_tup (ex_t msk_ex z1)), hn⟩
    obtain ⟨t, ty, hn⟩ := ty
    refine ⟨p, dx, vs, t, rfl, msk_ex _ _ q1, ty, hn, rfl, _, S, _, rs, .cons ra' (.cons rb .nil), h, fun v H' a S' g' r ⟨c, e, q⟩ => ?_⟩
    subst e
    cases r
    exact ⟨c, rfl, k _ H' (.dat (.bool (if neg then !c else c))) S' g' (Dq.bl _) q⟩
theorem w2_eqC' (hb : TyC K C b) (h : spec [.cv (.obj C fs), b] S fun v S' => ∃ c : Bool, v = .dat (.bool c) ∧ P (.dat (.bool c)) S') : W2 K (rEqO K C (SpA K 2 spec) false) (.cv (.obj C fs)) b S P := w2_eqC (neg := false) hb h
theorem w2_neC' (hb : TyC K C b) (h : spec [.cv (.obj C fs), b] S fun v S' => ∃ c : Bool, v = .dat (.bool c) ∧ P (.dat (.bool (!c))) S') : W2 K (rEqO K C (SpA K 2 spec) true) (.cv (.obj C fs)) b S P := w2_eqC (neg := true) hb h
theorem wc_strC (h : spec [.cv (.obj C fs)] S fun v S' => ∃ y : Str, v = .dat (.str y) ∧ P (.dat (.str y)) S') : WC K (rStrO C (SpA K 1 spec)) [.cv (.obj C fs)] S P := fun xs H Q rs ra k => by
  cases ra with
  | @cons x _ _ _ r1 r2 =>
    cases r2
    have r1' : RA K S H x (.cv (.obj C fs)) := r1
    cases r1 with
    | @obj q _ dx vs _ q1 q2 =>
      refine ⟨q, dx, vs, rfl, msk_ex _ _ q1, rfl, _, S, _, rs, .cons r1' .nil, h, fun v H' a S' g' r ⟨y, e, z⟩ => ?_⟩
      subst e
      cases r
      exact ⟨y, rfl, k _ H' (.dat (.str y)) S' g' (Dq.str _) z⟩
theorem wc_isiC (hc : ClsF K C) (p : P (.dat (.bool true)) S) : WC K (rIsi K) [.cv (.obj C fs), .own C] S P := fun xs H Q rs ra k => by
  cases ra with
  | cons r1 r2 =>
    cases r2 with
    | cons r3 r4 =>
      cases r4
      cases r3
      cases r1 with
      | obj q1 q2 => exact ⟨_, _, .ref C, .ref C, true, rfl, .own C, .base (.ins (msk_ex _ _ q1) hc.cl hc.ha hc.hn hc.ht hc.hm), by simp [PySem.W.kitOne], fin_d rs k (Dq.bl true) p⟩
theorem wc_isiCN {D : Addr} (hc : ClsF K D) (hk : PySem.W.kitOne K (.ref D) (.ref C) = some false) (p : P (.dat (.bool false)) S) : WC K (rIsi K) [.cv (.obj D fs), .own C] S P := fun xs H Q rs ra k => by
  cases ra with
  | cons r1 r2 =>
    cases r2 with
    | cons r3 r4 =>
      cases r4
      cases r3
      cases r1 with
      | obj q1 q2 => exact ⟨_, _, .ref D, .ref C, false, rfl, .own C, .base (.ins (msk_ex _ _ q1) hc.cl hc.ha hc.hn hc.ht hc.hm), hk, fin_d rs k (Dq.bl false) p⟩
theorem wc_isiCT {cs : List CV} (hk : PySem.W.kitOne K (.type "tuple") (.ref C) = some false) (p : P (.dat (.bool false)) S) : WC K (rIsi K) [.cv (.tup cs), .own C] S P := fun xs H Q rs ra k => by
  cases ra with
  | cons r1 r2 =>
    cases r2 with
    | cons r3 r4 =>
      cases r4
      cases r3
      cases r1 with
      | tup q1 q2 => exact ⟨_, _, .type "tuple", .ref C, false, rfl, .own C, tyx_tup (ex_t msk_ex q1), hk, fin_d rs k (Dq.bl false) p⟩
/-- f(e, ..), f an instance that is called -/
theorem we_callO {X : Cx} {n : Nat} {tf : TE} {t : TA} {E : XK} (h : WE K tf δ S fun a S1 => ∃ fs, a = .cv (.obj C fs) ∧ WA K t δ S1 fun bs S2 => bs.length + 1 = n ∧ spec (.cv (.obj C fs) :: bs) S2 P) : WE K (StX.tCallO X C (SpA K n spec) E tf t) δ S P := fun σ H Q rs s k =>
  h σ H _ rs s fun x H1 a S1 g1 r1 ⟨fs, e, w⟩ => by
    subst e
    have r1' : RA K S1 H1 x (.cv (.obj C fs)) := r1
    cases r1 with
    | @obj q _ dx us _ q1 q2 =>
      refine ⟨q, rfl, w σ H1 _ g1.rs (s.go g1) fun vs H2 bs S2 g2 r2 ⟨hl, sp⟩ => ⟨.inr ⟨dx, us, msk_ex _ _ (g2.ex _ _ q1)⟩, ?_⟩⟩
      have ra : RAs K S2 H2 (.ref q :: vs) (.cv (.obj C fs) :: bs) := .cons (r1'.go g2) r2
      exact ⟨by rw [ra.len]; simpa using hl, _, S2, P, g2.rs, ra, sp, fun v H' a S' g => k v H' a S' (g1.trans g2 |>.trans g)⟩
end
theorem fnR_of {P : Program} {w : World} {K : PySem.W.Frag} {mg : Str → Option Value} {base : Heap} {k : Nat} {f : Addr} {fd : FuncData} {ps : List Str} {sp : Sp} (F : FnOk P w K mg base CX0 k f fd ps sp) (hb : Binds K fd ps []) : FnR P w K mg base CX0 k f sp := by
  intro A outer s H us vs Q E hr e0 r h
  have hl : us.length = ps.length := by rw [← r.length]; exact F.len _ _ _ _ h
  have X : K.In s.heap := fun b o e => (e0.bs b o (e0.mod.kin b o e)).1
  have hb' := hb s us X (by rw [List.append_nil]; exact hl)
  rw [List.append_nil] at hb'
  exact F.run A outer s H ⟨us, []⟩ us vs Q E hr e0 hb' r h
theorem pe_callOK {X : Cx} {k : Nat} {C g : Addr} {fd : FuncData} {ps : List Str} {sp : Sp} {fe e : Expr} {es : List Expr} {tf : TE} {t : TA} {pos : Pos} (K : PySem.W.Frag) (hf : PE X fe tf) (c : StX.CallO K C g) (F : FnOk X.prog X.w X.K X.mg X.base CX0 k g fd ps sp) (hb : Binds K fd ps []) (hr : Room k X.A) (ha : PA X (e :: es) t) (h : X.K = K := by rfl)
    (ht : eval (.Call fe (e :: es) [] pos) X.env = (do callWith pos (← eval fe X.env) [] (backTo pos (starEach (e :: es) X.env)) (backToKw pos (keywordEach [] X.env))) := by rfl)
    (he : starEach (e :: es) X.env = (false, eval e X.env) :: starEach es X.env := by rfl) (hpl : (backTo pos (starEach es X.env)).any (·.1) = false := by rfl) : PE X (.Call fe (e :: es) [] pos) (StX.tCallO X C sp E0 tf t) := by
  subst h
  exact StX.pe_callO hf c (fnR_of F hb) hr pass0 ha ht he hpl
end Ov
namespace Ov
open PySem PySem.Spec PyProof.Rows L2
/-! ## terms of answers -/
inductive Trm where
  | val (d : PyData)
  | mov (n : Str) (i : Int)
  | fl (w p : Str)
structure Cs where
  v : Addr
  m : Addr
  f : Addr
def Trm.fs : Trm → List (Str × CV)
  | .val d => [("value", .dat d)]
  | .mov n i => [("name", .dat (.str n)), ("shift", .dat (.int i))]
  | .fl w p => [("word", .dat (.str w)), ("plugin", .dat (.str p))]
def Trm.fa : Trm → List (Str × AV)
  | .val d => [("value", .dat d)]
  | .mov n i => [("name", .dat (.str n)), ("shift", .dat (.int i))]
  | .fl w p => [("word", .dat (.str w)), ("plugin", .dat (.str p))]
def Trm.args : Trm → List AV
  | .val d => [.dat d]
  | .mov n i => [.dat (.str n), .dat (.int i)]
  | .fl w p => [.dat (.str w), .dat (.str p)]
def Trm.kind : Trm → Nat
  | .val _ => 0
  | .mov _ _ => 1
  | .fl _ _ => 2
def Cs.at (cs : Cs) : Nat → Addr
  | 0 => cs.v
  | 1 => cs.m
  | _ => cs.f
def Trm.c (cs : Cs) (t : Trm) : CV := .obj (cs.at t.kind) t.fs
def Trm.o (cs : Cs) (t : Trm) : AV := .cv (t.c cs)
def Trm.due : Trm → PyData
  | .val d => .tuple [.str "value", d]
  | .mov n i => .tuple [.str "moved", .str n, .int i]
  | .fl w p => .tuple [.str "failure", .str w, .str p]
def spots4 : List Str := ["size", "mode", "a", "ab"]
def tags3 : List Str := ["tint", "a", "size"]
def atomD (d : PyData) : Prop := d = .none ∨ (∃ s, d = .str s ∧ s ∈ spots4) ∨ ∃ i : Int, d = .int i ∧ -1000000 ≤ i ∧ i ≤ 1000000
def Trm.ok : Trm → Prop
  | .val d => atomD d
  | .mov n i => n ∈ spots4 ∧ -1000000 ≤ i ∧ i ≤ 1000000
  | .fl w p => w ∈ tags3 ∧ p ∈ spots4
def signS (i : Int) : Str := if i > 0 then " + " else " - "
def absI (i : Int) : Int := if i < 0 then -i else i
def atomS : PyData → Str
  | .str s => "'" ++ s
  | .int i => toString i
  | _ => "none"
def Trm.text : Trm → Str
  | .val d => atomS d
  | .mov n i => if i = 0 then n else n ++ signS i ++ toString (absI i)
  | .fl w p => p ++ " failed: " ++ w
def spTmNew (cs : Cs) (k : Nat) : List AV → Sto → Po → Prop := fun as S P => ∃ (q : Addr) (t : Trm), t.kind = k ∧ as = .own q :: t.args ∧ S q = some (.ins (cs.at k) []) ∧ P (.dat .none) (S.set q (.ins (cs.at k) t.fa))
def spTmStr (cs : Cs) (k : Nat) : List AV → Sto → Po → Prop := fun as S P => ∃ t : Trm, t.kind = k ∧ as = [t.o cs] ∧ t.ok ∧ P (.dat (.str t.text)) S
def spTmEq (cs : Cs) (k : Nat) : List AV → Sto → Po → Prop := fun as S P => ∃ (t : Trm) (b : AV), t.kind = k ∧ as = [t.o cs, b] ∧ t.ok ∧
  ((∃ u : Trm, b = u.o cs ∧ u.ok ∧ P (.dat (.bool (PyData.eqv t.due u.due))) S) ∨ (∃ d, b = .dat d ∧ P (.dat (.bool false)) S) ∨ (∃ l, b = .cv (.tup l) ∧ P (.dat (.bool false)) S))
def spTmCall (cs : Cs) (k : Nat) : List AV → Sto → Po → Prop := fun as S P => ∃ (t : Trm) (q : Addr) (kvs : List (Key × AV)), t.kind = k ∧ as = [t.o cs, .own q] ∧ S q = some (.dct kvs) ∧
  match t with
  | .val d => P (.dat d) S
  | .mov n i => ∃ x v, valA kvs (.inr n) = some (.dat x) ∧ (if i = 0 then v = x else ∃ j, x = .int j ∧ v = .int (j + i)) ∧ P (.dat v) S
  | .fl _ _ => P (t.o cs) S
theorem int_log6 {i : Int} (h1 : -1000000 ≤ i) (h2 : i ≤ 1000000) : i.natAbs.log2 < 1920 := by
  by_cases h : i.natAbs = 0
  · rw [h]; decide
  · have : i.natAbs.log2 < 20 := (Nat.log2_lt h).mpr (by omega)
    omega
theorem spot_len {s : Str} (h : s ∈ spots4) : s.length ≤ 4 := by
  simp only [spots4, List.mem_cons, List.not_mem_nil, or_false] at h
  rcases h with rfl | rfl | rfl | rfl <;> decide +kernel
theorem tag_len {s : Str} (h : s ∈ tags3) : s.length ≤ 4 := by
  simp only [tags3, List.mem_cons, List.not_mem_nil, or_false] at h
  rcases h with rfl | rfl | rfl <;> decide +kernel
theorem spot_ok {s : Str} (h : s ∈ spots4) : PyData.strOk s = true := by
  simp only [spots4, List.mem_cons, List.not_mem_nil, or_false] at h
  rcases h with rfl | rfl | rfl | rfl <;> decide +kernel
theorem tag_ok {s : Str} (h : s ∈ tags3) : PyData.strOk s = true := by
  simp only [tags3, List.mem_cons, List.not_mem_nil, or_false] at h
  rcases h with rfl | rfl | rfl <;> decide +kernel
theorem sh_atom {d : PyData} (h : atomD d) : SeqAt.shaped d = true := by
  rcases h with rfl | ⟨s, rfl, hs⟩ | ⟨i, rfl, _⟩
  · decide
  · simp [SeqAt.shaped, PyData.canLay0, PyData.depth, spot_ok hs]
  · simp [SeqAt.shaped, PyData.canLay0, PyData.depth]
theorem sh_due {t : Trm} (h : t.ok) : SeqAt.shaped t.due = true := by
  cases t with
  | val d =>
    have s1 : PyData.strOk "value" = true := by decide +kernel
    rcases h with rfl | ⟨s, rfl, hs⟩ | ⟨i, rfl, _⟩
    · simp [Trm.due, SeqAt.shaped, PyData.canLay0, PyData.canLayAll0, PyData.depth, PyData.depthAll, s1]
    · simp [Trm.due, SeqAt.shaped, PyData.canLay0, PyData.canLayAll0, PyData.depth, PyData.depthAll, s1, spot_ok hs]
    · simp [Trm.due, SeqAt.shaped, PyData.canLay0, PyData.canLayAll0, PyData.depth, PyData.depthAll, s1]
  | mov n i =>
    have s1 : PyData.strOk "moved" = true := by decide +kernel
    simp [Trm.due, SeqAt.shaped, PyData.canLay0, PyData.canLayAll0, PyData.depth, PyData.depthAll, s1, spot_ok h.1]
  | fl w p =>
    have s1 : PyData.strOk "failure" = true := by decide +kernel
    simp [Trm.due, SeqAt.shaped, PyData.canLay0, PyData.canLayAll0, PyData.depth, PyData.depthAll, s1, tag_ok h.1, spot_ok h.2]
theorem due_val {d e : PyData} : PyData.eqv (Trm.val d).due (Trm.val e).due = PyData.eqv d e := by simp [Trm.due, PyData.eqv, PyData.eqvAll]
theorem due_mov {n m : Str} {i j : Int} : PyData.eqv (Trm.mov n i).due (Trm.mov m j).due = (decide (n = m) && decide (i = j)) := by
  simp only [Trm.due, PyData.eqv, PyData.eqvAll, Bool.and_true]
  have e : ((Str.ofString "moved") == (Str.ofString "moved")) = true := by simp
  rw [e, Bool.true_and]
  congr 1 <;> (rw [Bool.eq_iff_iff]; simp)
theorem due_fl {n m i j : Str} : PyData.eqv (Trm.fl n i).due (Trm.fl m j).due = (decide (n = m) && decide (i = j)) := by
  simp only [Trm.due, PyData.eqv, PyData.eqvAll, Bool.and_true]
  have e : ((Str.ofString "failure") == (Str.ofString "failure")) = true := by simp
  rw [e, Bool.true_and]
  congr 1 <;> (rw [Bool.eq_iff_iff]; simp)
theorem due_ne {t u : Trm} (h : t.kind ≠ u.kind) : PyData.eqv t.due u.due = false := by
  have a1 : (Str.ofString "value" == Str.ofString "moved") = false := by decide +kernel
  have a2 : (Str.ofString "value" == Str.ofString "failure") = false := by decide +kernel
  have a3 : (Str.ofString "moved" == Str.ofString "value") = false := by decide +kernel
  have a4 : (Str.ofString "moved" == Str.ofString "failure") = false := by decide +kernel
  have a5 : (Str.ofString "failure" == Str.ofString "value") = false := by decide +kernel
  have a6 : (Str.ofString "failure" == Str.ofString "moved") = false := by decide +kernel
  cases t <;> cases u <;> first | exact absurd rfl h | simp only [Trm.due, PyData.eqv, PyData.eqvAll, a1, a2, a3, a4, a5, a6, Bool.false_and]
theorem tm_cv {t : Trm} : cvF t.fa = some t.fs := by cases t <;> rfl
section
variable {K : PySem.W.Frag} {S : Sto} {δ : Dl} {P : Po} {cs : Cs} {k : Nat} {dvs : List V} {das : List AV} {E : XK} {t tk : TA} {n m N : Nat} {gV : List V → List V → List V} {gA : AV → List AV → List AV → List AV}
theorem WA.imp {P P' : List AV → Sto → Prop} {tas : TA} (h : WA K tas δ S P) (i : ∀ as S', P as S' → P' as S') : WA K tas δ S P' := fun σ H Q r s k => h σ H Q r s fun vs H' as S' g ra p => k vs H' as S' g ra (i as S' p)
/-- a term made, never changed -/
theorem we_mkT (hd : ∀ S H, RAs K S H dvs das) (h : WA K t δ S fun as S1 => ∃ u : Trm, u.kind = k ∧ as ++ das = u.args ∧ u.args.length + 1 = N ∧ P (u.o cs) S1) : WE K (tMake (cs.at k) (SpA K N (spTmNew cs k)) dvs E t) δ S P := by
  refine WE.freezeO (we_make (das := das) hd fun σ H Q rs s kk => h σ H Q rs s fun vs H' as S' g r p => kk vs H' as S' g r ?_)
  obtain ⟨u, hk, e, hl, p⟩ := p
  intro x hx
  refine ⟨by rw [e]; exact hl, x, u, hk, by rw [e], set_same, rfl, x, u.fa, cs.at k, u.fs, rfl, set_same, tm_cv, ?_⟩
  rw [set_set, del_set hx]
  subst hk
  exact p
theorem we_mkTK (hg : ∀ {S : Sto} {H : Hp} {x : Addr} {vs zs : List V} {as bs : List AV}, RAs K S H vs as → RAs K S H zs bs → RAs K S H (gV (.ref x :: vs) zs) (gA (.own x) as bs))
    (h : WA K t δ S fun as S1 => WA K tk δ S1 fun bs S2 => as.length = n ∧ bs.length = m ∧ ∃ u : Trm, u.kind = k ∧ (∀ a, gA a as bs = a :: u.args) ∧ u.args.length + 1 = N ∧ P (u.o cs) S2) : WE K (tMakeK (cs.at k) n m (SpA K N (spTmNew cs k)) gV E t tk) δ S P := by
  refine WE.freezeO (we_makeK (gA := gA) hg (h.imp fun as S1 w => w.imp fun bs S2 p => ?_))
  obtain ⟨h1, h2, u, hk, e, hl, p⟩ := p
  refine ⟨h1, h2, fun x hx => ⟨by rw [e]; exact hl, x, u, hk, e _, set_same, rfl, x, u.fa, cs.at k, u.fs, rfl, set_same, tm_cv, ?_⟩⟩
  rw [set_set, del_set hx]
  subst hk
  exact p
end
end Ov
namespace Ov
open PySem PySem.Spec PyProof.Rows L2
/-! ## dicts: what is put is got -/
theorem valA_cons {a : Key × AV} {l : List (Key × AV)} {k : Key} : valA (a :: l) k = if a.1 = k then some a.2 else valA l k := by
  unfold valA
  rw [List.find?_cons]
  by_cases h : a.1 = k
  · rw [if_pos h, decide_eq_true h]; rfl
  · rw [if_neg h, decide_eq_false h]
theorem valA_map_same {k : Key} {v : AV} : ∀ {kvs : List (Key × AV)}, (kvs.any fun kv => decide (kv.1 = k)) = true → valA (kvs.map fun kv => if kv.1 = k then (kv.1, v) else kv) k = some v
  | [], h => by simp at h
  | a :: l, h => by
    rw [List.map_cons, valA_cons]
    by_cases e : a.1 = k
    · rw [if_pos e, if_pos e]
    · rw [if_neg e, if_neg e]
      exact valA_map_same (by simpa [e] using h)
theorem valA_map_ne {k k' : Key} {v : AV} (hk : k' ≠ k) : ∀ {kvs : List (Key × AV)}, valA (kvs.map fun kv => if kv.1 = k then (kv.1, v) else kv) k' = valA kvs k'
  | [] => rfl
  | a :: l => by
    rw [List.map_cons, valA_cons, valA_cons, valA_map_ne hk]
    by_cases e : a.1 = k
    · have : ¬ a.1 = k' := fun z => hk (z.symm.trans e)
      rw [if_pos e, if_neg this, if_neg this]
    · rw [if_neg e]
theorem valA_app {l m : List (Key × AV)} {k : Key} : valA (l ++ m) k = (valA l k).or (valA m k) := by
  induction l with
  | nil => simp [valA]
  | cons a l ih =>
    rw [List.cons_append, valA_cons, valA_cons, ih]
    split <;> simp
theorem valA_non {k : Key} : ∀ {kvs : List (Key × AV)}, ¬ (kvs.any fun kv => decide (kv.1 = k)) = true → valA kvs k = none
  | [], _ => rfl
  | a :: l, h => by
    have h1 : ¬ a.1 = k := fun e => h (by simp [e])
    rw [valA_cons, if_neg h1]
    exact valA_non fun e => h (by rw [List.any_cons, e, Bool.or_true])
theorem valA_put_same {kvs : List (Key × AV)} {k : Key} {v : AV} : valA (putA kvs k v) k = some v := by
  unfold putA
  by_cases h : (kvs.any fun kv => decide (kv.1 = k)) = true
  · rw [if_pos h]; exact valA_map_same h
  · rw [if_neg h, valA_app, valA_non h, valA_cons, if_pos rfl]; rfl
theorem valA_put_ne {kvs : List (Key × AV)} {k k' : Key} {v : AV} (hk : k' ≠ k) : valA (putA kvs k v) k' = valA kvs k' := by
  unfold putA
  by_cases h : (kvs.any fun kv => decide (kv.1 = k)) = true
  · rw [if_pos h]; exact valA_map_ne hk
  · rw [if_neg h, valA_app, valA_cons, if_neg (Ne.symm hk)]
    show (valA kvs k').or none = _
    simp
theorem putA_len {kvs : List (Key × AV)} {k : Key} {v : AV} : (putA kvs k v).length ≤ kvs.length + 1 := by
  unfold putA
  split <;> simp
theorem we_dnew {K : PySem.W.Frag} {S : Sto} {δ : Dl} {P : Po} (h : ∀ q, S q = none → P (.own q) (S.set q (.dct []))) : WE K tDNewK δ S P := fun σ H Q rs s k p hp => by
  have g0 : Go K S H (S.set p (.dct [])) (upd H p (.dK [])) := Go.own rs hp fun S' H' e q => ⟨[], q, .nil⟩
  exact k _ _ (.own p) _ g0 rfl (h p (rs.none_of hp))
end Ov
namespace Ov
open PySem PySem.Spec PyProof.Rows L2
/-! ## what may be raised: an own class's exception with its fields -/
abbrev Px := Addr → List (Str × AV) → Sto → Prop
def EOK (K : PySem.W.Frag) (S : Sto) (H : Hp) (PX : Px) (E : XK) : Prop := ∀ (C d : Addr) (gs : List (Str × V)) (fs : List (Str × AV)) (H' : Hp) (S' : Sto), Go K S H S' H' → msk S' H' d = some (.xd gs) → RFs K S' H' gs fs → PX C fs S' → E (.ref C) (some d) H'
def SpX (K : PySem.W.Frag) (n : Nat) (spec : List AV → Sto → Po → Px → Prop) : Sp := fun vs H Q E => vs.length = n ∧ ∃ as S P PX, RS K S H ∧ RAs K S H vs as ∧ spec as S P PX ∧ (∀ v H' a S', Go K S H S' H' → RA K S' H' v a → P a S' → Q v H') ∧ EOK K S H PX E
def WSE (K : PySem.W.Frag) (E : XK) (PX : Px) (ts : TS) (δ : Dl) (S : Sto) (R : Rr) : Prop := ∀ (σ : L2.St) (H : Hp) (D : Ends), RS K S H → Sl K S H σ δ → Fits K S H R D → EOK K S H PX E → ts D σ H
section
variable {K : PySem.W.Frag} {S S' S1 : Sto} {H H' H1 : Hp} {PX : Px} {E : XK} {δ : Dl} {R : Rr} {t u : TS} {tt : TT} {te : TE} {ta : TA} {n : Nat} {spec : List AV → Sto → Po → Px → Prop}
theorem EOK.go (e : EOK K S H PX E) (g : Go K S H S1 H1) : EOK K S1 H1 PX E := fun C d gs fs H' S' g' => e C d gs fs H' S' (g.trans g')
theorem wse_of (h : WS K t δ S R) : WSE K E PX t δ S R := fun σ H D rs s f _ => h σ H D rs s f
theorem wse_seq (h : WS K t δ S { R with nx := fun δ' S' => WSE K E PX u δ' S' R }) : WSE K E PX (tSeq t u) δ S R := fun σ H D rs s f e =>
  h σ H _ rs s ⟨fun σ' H' δ' S' g s' w => w σ' H' D g.rs s' (f.go g) (e.go g), f.rt, f.bk, f.ct⟩
theorem wse_seqE (h : WSE K E PX t δ S { R with nx := fun δ' S' => WSE K E PX u δ' S' R }) : WSE K E PX (tSeq t u) δ S R := fun σ H D rs s f e =>
  h σ H _ rs s ⟨fun σ' H' δ' S' g s' w => w σ' H' D g.rs s' (f.go g) (e.go g), f.rt, f.bk, f.ct⟩ e
theorem wse_if (h : WT K tt δ S fun k S1 => if k = true then WSE K E PX t δ S1 R else WSE K E PX u δ S1 R) : WSE K E PX (tIfS tt t u) δ S R := fun σ H D rs s f e =>
  h σ H _ rs s fun k H1 S1 g w => by
    cases k with
    | true => exact iteT ((iteT' w) σ H1 D g.rs (s.go g) (f.go g) (e.go g))
    | false => exact iteF ((iteF' w) σ H1 D g.rs (s.go g) (f.go g) (e.go g))
theorem wse_for {g : TG} {wi : TI} (h : WI K wi δ S fun n f S1 => ∃ I : Nat → Dl → Sto → Prop, I 0 δ S1 ∧
    (∀ i δ' S', i < n → I i δ' S' → WG K g (.dat (f i)) δ' S' fun δ2 S2 => WSE K E PX t δ2 S2 { R with nx := I (i + 1), ct := I (i + 1), bk := R.nx }) ∧ ∀ δ' S', I n δ' S' → R.nx δ' S') : WSE K E PX (tFor wi g t) δ S R := fun σ H D rs s f e =>
  h σ H _ rs s fun J H1 S1 n fd g1 ⟨G, Y, w, hG, hY⟩ ⟨I, h0, hs, hd⟩ => by
    refine for_it w (fun i σ' H' => ∃ δ' S', Go K S1 H1 S' H' ∧ Sl K S' H' σ' δ' ∧ I i δ' S') ⟨δ, S1, Go.refl g1.rs, s.go g1, h0⟩ (fun i σ' H' _ ⟨δ', S', g', _, _⟩ => hG S' H' g') ?_ ?_
    · rintro i x σ' H' H'' hi ⟨δ', S', g', s', p⟩ y
      obtain ⟨g2, q⟩ := hY i S' H' x H'' hi g' y
      refine hs i δ' S' hi p x σ' H'' _ g2.rs (s'.go g2) q fun σ2 H2 δ2 S2 g3 s2 w2 => w2 σ2 H2 _ g3.rs s2 ?_ (((e.go g1).go ((g'.trans g2).trans g3)))
      have f2 := (f.go g1).go ((g'.trans g2).trans g3)
      exact ⟨fun σ3 H3 δ3 S3 g4 s3 q => ⟨δ3, S3, ((g'.trans g2).trans g3).trans g4, s3, q⟩, f2.rt, f2.nx, fun σ3 H3 δ3 S3 g4 s3 q => ⟨δ3, S3, ((g'.trans g2).trans g3).trans g4, s3, q⟩⟩
    · rintro σ' H' ⟨δ', S', g', s', p⟩
      exact f.nx σ' H' δ' S' (g1.trans g') s' (hd δ' S' p)
/-- a call that may raise, its answer let go -/
theorem wse_call (h : WA K ta δ S fun as S1 => as.length = n ∧ spec as S1 (fun _ S2 => R.nx δ S2) PX) : WSE K E PX (tDrop (tCallS (SpX K n spec) (fun _ => E) ta)) δ S R := fun σ H D rs s f e =>
  h σ H _ rs s fun vs H1 as S1 g r ⟨hl, sp⟩ => ⟨r.len.trans hl, as, S1, _, PX, g.rs, r, sp, fun v H' a S' g' _ p => f.nx σ H' δ S' (g.trans g') (s.go (g.trans g')) p, e.go g⟩
theorem body_okX {N : List Str} {vs : List V} {Q : VK} (h : SpX K n spec vs H Q E) (hN : n ≤ N.length) (hb : ∀ as S P PX, as.length = n → spec as S P PX → WSE K E PX t (startA N as) S { nx := fun _ S' => P (.dat .none) S', rt := P }) :
    t { nx := fun _ H' => Q .non H', rt := Q } (start N vs) H := by
  obtain ⟨hl, as, S, P, PX, rs, ra, sp, k, e⟩ := h
  have hla : as.length = n := ra.len.symm.trans hl
  exact hb as S P PX hla sp _ H _ rs (sl_start ra (by omega)) ⟨fun σ' H' δ' S' g s p => k _ H' (.dat .none) S' g Dq.non p, k, fun _ _ _ _ _ _ z => z.elim, fun _ _ _ _ _ _ z => z.elim⟩ e
end
/-! ### an __init__ of two fields -/
def spXI2 (K : PySem.W.Frag) (C : Addr) (f1 f2 : Str) : Sp := fun vs H Q _ => ∃ (a : Addr) (x y : V), vs = [.ref a, x, y] ∧ H a = some (exo a C none) ∧ ∀ d, H d = none → d ≠ a → Q .non (upd (upd (upd H d (exd d [(f1, x)])) a (exo a C (some d))) d (exd d [(f2, y), (f1, x)]))
section
variable {K : PySem.W.Frag} {S : Sto} {PX : Px} {E : XK} {δ : Dl} {R : Rr} {ta : TA} {C : Addr} {f1 f2 : Str}
theorem upd_back {H : Hp} {a d : Addr} {o1 o2 o3 : HO} {gs : List (Str × V)} (ha : H a = none) (hd : d ≠ a) : upd (L2.del (upd (upd (upd (upd H a o1) d o2) a o3) d o2) a) d (.xd gs) = upd H d (.xd gs) := by
  funext b
  by_cases h1 : b = d
  · subst h1; rw [upd_same, upd_same]
  · rw [upd_ne h1, upd_ne h1]
    by_cases h2 : b = a
    · subst h2; rw [L2.del_same, ha]
    · rw [L2.del_ne h2, upd_ne h1, upd_ne h2, upd_ne h1, upd_ne h2]
theorem wse_raise {W : WX} (hW : W = fun cls d _ H => E cls d H) (h : WA K ta δ S fun as S1 => ∃ a b, as = [a, b] ∧ PX C [(f2, b), (f1, a)] S1) : WSE K E PX (fun _ σ H => tMkO C (spXI2 K C f1 f2) [] ta σ H fun cls d H' => W cls d σ H') δ S R := fun σ H D rs s f e => by
  subst hW
  refine h σ H _ rs s fun vs H1 as S1 g r ⟨a, b, e1, p⟩ => ?_
  subst e1
  cases r with
  | cons ra r2 =>
    cases r2 with
    | cons rb r3 =>
      cases r3
      rename_i x y
      refine ⟨by show 2 ≤ 1000; decide, fun q hq => ?_⟩
      refine ⟨q, x, y, rfl, upd_same, fun d hd hne => ⟨rfl, d, [(f2, y), (f1, x)], ?_, upd_same, ?_, ?_⟩⟩
      · rw [upd_ne hne.symm, upd_same]
      · rw [upd_ne hne] at hd; exact hd
      · have hd1 : H1 d = none := by rw [upd_ne hne] at hd; exact hd
        have e2 : upd (L2.del (upd (upd (upd (upd H1 q (exo q C none)) d (exd d [(f1, x)])) q (exo q C (some d))) d (exd d [(f2, y), (f1, x)])) q) d (.xd [(f2, y), (f1, x)]) = upd H1 d (.xd [(f2, y), (f1, x)]) := by
          funext b
          by_cases h1 : b = d
          · subst h1; rw [upd_same, upd_same]
          · rw [upd_ne h1, upd_ne h1]
            by_cases h2 : b = q
            · subst h2; rw [L2.del_same, hq]
            · rw [L2.del_ne h2, upd_ne h1, upd_ne h2, upd_ne h1, upd_ne h2]
        show E (.ref C) (some d) (upd (L2.del (upd (upd (upd (upd H1 q (exo q C none)) d (exd d [(f1, x)])) q (exo q C (some d))) d (exd d [(f2, y), (f1, x)])) q) d (.xd [(f2, y), (f1, x)]))
        rw [e2]
        have gn := Go.new (o := .xd [(f2, y), (f1, x)]) g.rs hd1
        exact e C d _ [(f2, b), (f1, a)] _ S1 (g.trans gn) (msk_new g.rs hd1) (.cons (rb.go gn) (.cons (ra.go gn) .nil)) p
end
end Ov
namespace Ov
open PySem PySem.Spec PyProof.Rows L2
/-! ## isinstance(e, c) of a caught exception with its dict -/
def rIsEd (K : PySem.W.Frag) (cls : Value) (d : Option Addr) (a : Addr) : List V → Hp → VK → Prop := fun xs H Q => ∃ (D : Addr) (c : V) (cv : Value) (b : Bool) (dd : Addr) (fs : List (Str × V)), xs = [.ref a, c] ∧ (∀ u, RelV c u → u = cv) ∧ cls = .ref D ∧ d = some dd ∧ H dd = some (.xd fs) ∧ L2.ExcC K D ∧ PySem.W.kitOne K (.ref D) cv = some b ∧ Q (.bl b) H
theorem call_isEd {X : Cx} {a : Addr} {oe : Obj} {cls : Value} {d : Option Addr} {pn : List (Addr × Obj)} (hz : Zc cls d oe) (hf : ∃ vs, oe.data = .fields vs) : CallR (X.suite a ((a, oe) :: pn)) (.builtin "isinstance") (rIsEd X.K cls d a) := by
  intro pins s σ H xs us Q I r h
  obtain ⟨D, c, cv, b, dd, fs, rfl, hcv, rfl, rfl, ea, C, e, q⟩ := h
  cases r with
  | cons rx rr =>
    cases rr with
    | cons rt rr =>
      cases rr
      cases rx
      have ec := hcv _ rt
      subst ec
      obtain ⟨hget, _⟩ := I.pin (a, oe) (List.mem_append.mpr (.inl List.mem_cons_self))
      obtain ⟨vs, hv⟩ := hf
      have hx : ObjOk X.prog X.w H s.heap dd (.xd fs) := I.hok dd _ ea
      obtain ⟨mA, hns, hr⟩ := hx
      obtain ⟨od, ho, hl⟩ := lookIn_ns hns
      have J : PySem.W.InstAt s.heap a oe D (some od) := ⟨hget, hz.1, by unfold PySem.W.notCls; rw [hv] <;> rfl, by rw [hz.2]; exact ho⟩
      obtain ⟨cd, hcd, _⟩ := PySem.W.any_some C.hd
      exact PySem.W.kia_one (PySem.W.kitx_exc (by rw [hcd]; rfl) C.hg C.hk C.hs C.ha C.hn C.ht C.hm) I.kIn J e (fun z => nomatch z) fun tk => ⟨.bl b, H, I.kept (t' := tk) fun _ _ z => z, rfl, q⟩
/-! ## an instance made whose __init__ may raise -/
def tMakeKS (C : Addr) (n m : Nat) (sp : Sp) (gV : List V → List V → List V) (E : L2.St → XK) (t tk : TA) : TE := fun σ H Q => t σ H fun vs H1 => tk σ H1 fun zs H2 => vs.length = n ∧ zs.length = m ∧ ∀ x dx, H2 x = none → H2 dx = none → dx ≠ x →
  sp (gV (.ref x :: vs) zs) (upd (upd H2 dx (.own x)) x (.ins C dx [])) (fun v H3 => v = .non ∧ Q (.ref x) H3) (E σ)
section
variable {X : Cx} {CX : CXT} {k n : Nat} {f C : Addr} {fd : FuncData} {ps ks : List Str} {sp : Sp} {E : L2.St → XK} {x : Str} {p pos : Pos} {e : Expr} {es : List Expr} {kws : List Keyword} {t tk : TA} {g : List Value → List Value → List Value} {gV : List V → List V → List V}
theorem run_makeKS {pins : List (Addr × Obj)} {σ : L2.St} {H : Hp} {s : Shared} {Q : VK} {us ws : List Value} {vs zs : List V} (M : Mk X.K C f) (F : FnOk X.prog X.w X.K X.mg X.base CX k f fd ps sp) (hr : Room (k + 1) X.A) (hb : KBn X.K fd ps (n + 1) ks g gV) (hx : PassesAt CX X σ (E σ))
    (I : Inv X pins σ H s) (r : Vals vs us) (rz : Vals zs ws) (l1 : vs.length = n) (l2 : zs.length = ks.length)
    (h : ∀ x dx, H x = none → H dx = none → dx ≠ x → sp (gV (.ref x :: vs) zs) (upd (upd H dx (.own x)) x (.ins C dx [])) (fun v H2 => v = .non ∧ Q (.ref x) H2) (E σ)) :
    wpAny (model X.prog X.w) X.A (call (.ref C) us (ks.zip ws)) (EP X pins σ Q) X.xe s := by
  have hq := h (s.heap.objs.size + 1) s.heap.objs.size (I.hok.fresh (Nat.le_succ _)) (I.hok.fresh (Nat.le_refl _)) (Nat.ne_of_lt (Nat.lt_succ_self _))
  have I2 := Inv.made (C := C) I
  have r1 : Vals (V.ref (s.heap.objs.size + 1) :: vs) (Value.ref (s.heap.objs.size + 1) :: us) := .cons rfl r
  have r2 := hb.rel r1 rz
  have n1 : (Value.ref (s.heap.objs.size + 1) :: us).length = n + 1 := by
    rw [List.length_cons, ← r.length, l1]
  refine wpAny_call (make_map (f := f) I.kIn M.makes M.init (beq_iff_eq.mp M.fn) (codeAny_mono (F.run _ X.stack _ _ ⟨Value.ref (s.heap.objs.size + 1) :: us, ks.zip ws⟩ (g (Value.ref (s.heap.objs.size + 1) :: us) ws) _ _ (E σ) (hr.make C us (ks.zip ws))
    (I2.env0.make C us (ks.zip ws)) (hb.to _ (Value.ref (s.heap.objs.size + 1) :: us) ws I2.kIn n1 (rz.length.symm.trans l2)) r2 hq) fun r s' hq' => ?_))
  cases r with
  | error e => exact hx pins _ _ e s' I2 hq'
  | ok fl =>
    cases fl with
    | ret u =>
      obtain ⟨v, H', I3, rv, ev, q3⟩ := I2.after hq'
      subst ev
      exact ⟨rv, ⟨V.ref (s.heap.objs.size + 1), H', I3, rfl, q3⟩⟩
    | next => exact False.elim hq'
    | brk => exact False.elim hq'
    | cont => exact False.elim hq'
theorem pe_makeKS (M : Mk X.K C f) (F : FnOk X.prog X.w X.K X.mg X.base CX k f fd ps sp) (hr : Room (k + 1) X.A) (hg : Gl X x) (hm : X.mg x = some (.ref C)) (hb : KBn X.K fd ps (n + 1) ks g gV) (hx : ∀ σ, PassesAt CX X σ (E σ)) (ha : PA X (e :: es) t) (hkw : PK X kws tk)
    (hall : (backToKw pos (keywordEach kws X.env)).all (·.1.isSome) = true := by rfl) (hks : (backToKw pos (keywordEach kws X.env)).filterMap (·.1) = ks := by rfl) (hdb : (x == ("__debug__" : Str)) = false := by decide)
    (he : starEach (e :: es) X.env = (false, eval e X.env) :: starEach es X.env := by rfl) (hpl : ((backTo pos (starEach (e :: es) X.env)).any (·.1) || (backToKw pos (keywordEach kws X.env)).any (·.1.isNone)) = false := by rfl) :
    PE X (.Call (.Name x p) (e :: es) kws pos) (tMakeKS C n ks.length sp gV E t tk) := by
  refine ⟨fun pins s σ H Q I h => ?_⟩
  refine wpAny_Call_Name_kw (ld_glob I hg hm ?_ hdb)
  refine PySem.W.callWith_KW (h₀ := X.base) I.ok.mod.kin M.kp hall (thn (ha.run pos pins s σ H _ I h) fun us s1 ⟨vs, H1, I1, r, q⟩ => ?_) hpl he
  refine thn (hkw.run pos pins s1 σ H1 _ I1 q) fun ws s2 ⟨zs, H2, I2, rz, l1, l2, q2⟩ => ⟨I2.kIn, ?_⟩
  rw [hks]
  exact run_makeKS M F hr hb (hx σ) I2 r rz l1 l2 q2
end
/-! ## try: C(..) except c as n: suite -/
section
variable {K : PySem.W.Frag} {S : Sto} {δ : Dl} {R : Rr} {C : Addr} {n m N : Nat} {spec : List AV → Sto → Po → Px → Prop} {gV : List V → List V → List V} {gA : AV → List AV → List AV → List AV} {t tk : TA} {c : Value} {i : Nat} {ts : Addr → Value → Option Addr → TS} {Wout : WX}
/-- the suite, entered with an exception of the class at C' that holds fs -/
def SuOk (K : PySem.W.Frag) (ts : Addr → Value → Option Addr → TS) (i : Nat) (δ : Dl) (R : Rr) (C' : Addr) (fs : List (Str × AV)) (S : Sto) : Prop := ∀ (σ : L2.St) (H : Hp) (a dd : Addr) (gs : List (Str × V)) (D : Ends), RS K S H → Sl K S H σ δ → H a = none → msk S H dd = some (.xd gs) → RFs K S H gs fs → Fits K S H R D →
  ts a (.ref C') (some dd) { nx := fun σ' H' => D.nx (σ'.set i none) H', rt := D.rt, bk := fun σ' H' => D.bk (σ'.set i none) H', ct := fun σ' H' => D.ct (σ'.set i none) H' } (σ.set i (some (.ref a))) H
theorem ws_tryMake (hg : ∀ {S : Sto} {H : Hp} {x : Addr} {vs zs : List V} {as bs : List AV}, RAs K S H vs as → RAs K S H zs bs → RAs K S H (gV (.ref x :: vs) zs) (gA (.own x) as bs))
    (h : WA K t δ S fun as S1 => WA K tk δ S1 fun bs S2 => as.length = n ∧ bs.length = m ∧ ∀ x, S2 x = none → (gA (.own x) as bs).length = N ∧ spec (gA (.own x) as bs) (S2.set x (.ins C [])) (fun v S3 => v = .dat .none ∧ R.nx δ S3) fun C' fs S3 => PySem.W.exmOne K (.ref C') c = some true ∧ SuOk K ts i δ R C' fs S3) :
    WS K (fun D σ H => (fun W : WX => tDrop (tMakeKS C n m (SpX K N spec) gV (fun σ cls d H => W cls d σ H) t tk)) (wAs K c i ts Wout D) D σ H) δ S R := fun σ H D rs s f =>
  h σ H _ rs s fun vs H1 as S1 g1 r1 w => w σ H1 _ g1.rs (s.go g1) fun zs H2 bs S2 g2 r2 ⟨hn, hm, hx⟩ => by
    refine ⟨by rw [r1.len, hn], by rw [r2.len, hm], fun x dx n1 n2 ne => ?_⟩
    have gd := Go.new (o := .own x) g2.rs n2
    have nx : upd H2 dx (.own x) x = none := by rw [upd_ne (Ne.symm ne)]; exact n1
    have gx : Go K S2 (upd H2 dx (.own x)) (S2.set x (.ins C [])) (upd (upd H2 dx (.own x)) x (.ins C dx [])) := Go.own gd.rs nx fun S' H' e z => ⟨dx, [], z, .nil⟩
    have gg := gd.trans gx
    obtain ⟨hl, sp⟩ := hx x (g2.rs.none_of n1)
    have ra := hg (x := x) ((r1.up g2.ex).up gg.ex) (r2.up gg.ex)
    have g0 := (g1.trans g2).trans gg
    refine ⟨by rw [ra.len, hl], _, _, _, _, gx.rs, ra, sp, fun v H' a S' g r p => ?_, fun C' d gs fs H' S' g q rf p => ?_⟩
    · obtain ⟨e, p⟩ := p
      subst e
      cases r
      exact ⟨rfl, f.nx σ H' δ S' (g0.trans g) (s.go (g0.trans g)) p⟩
    · obtain ⟨e1, su⟩ := p
      exact ⟨true, e1, fun _ a ha => su σ H' a d gs D g.rs (s.go (g0.trans g)) ha q rf (f.go (g0.trans g)), fun z => nomatch z⟩
end
end Ov
namespace Ov
open PySem PySem.Spec PyProof.Rows L2
/-! ## hooks of any kind, also such as are refused -/
structure Pg where
  n : PyData
  s : Str
  v : PyData
def Pg.d (p : Pg) : PyData := .tuple [p.n, .str p.s, p.v]
def hookG (name : PyData) (kind gives : Str) (ps qs : List Pg) : List (Str × AV) := [("name", .dat name), ("kind", .dat (.str kind)), ("gives", .dat (.str gives)), ("params", .dat (.tuple (ps.map Pg.d))), ("only", .dat (.tuple (qs.map Pg.d))), ("names", .dat (.tuple ((ps ++ qs).map Pg.n)))]
theorem fld_hookG {name : PyData} {kind gives : Str} {ps qs : List Pg} : fldA (hookG name kind gives ps qs) "name" = some (.dat name) ∧ fldA (hookG name kind gives ps qs) "kind" = some (.dat (.str kind)) ∧ fldA (hookG name kind gives ps qs) "gives" = some (.dat (.str gives)) ∧
    fldA (hookG name kind gives ps qs) "params" = some (.dat (.tuple (ps.map Pg.d))) ∧ fldA (hookG name kind gives ps qs) "only" = some (.dat (.tuple (qs.map Pg.d))) ∧ fldA (hookG name kind gives ps qs) "names" = some (.dat (.tuple ((ps ++ qs).map Pg.n))) := by
  have a1 : (Str.ofString "name" == Str.ofString "name") = true := by decide +kernel
  have a2 : (Str.ofString "kind" == Str.ofString "name") = false := by decide +kernel
  have a3 : (Str.ofString "gives" == Str.ofString "name") = false := by decide +kernel
  have a4 : (Str.ofString "gives" == Str.ofString "kind") = false := by decide +kernel
  have a5 : (Str.ofString "params" == Str.ofString "name") = false := by decide +kernel
  have a6 : (Str.ofString "params" == Str.ofString "kind") = false := by decide +kernel
  have a7 : (Str.ofString "params" == Str.ofString "gives") = false := by decide +kernel
  have b1 : (Str.ofString "only" == Str.ofString "name") = false := by decide +kernel
  have b2 : (Str.ofString "only" == Str.ofString "kind") = false := by decide +kernel
  have b3 : (Str.ofString "only" == Str.ofString "gives") = false := by decide +kernel
  have b4 : (Str.ofString "only" == Str.ofString "params") = false := by decide +kernel
  have c1 : (Str.ofString "names" == Str.ofString "name") = false := by decide +kernel
  have c2 : (Str.ofString "names" == Str.ofString "kind") = false := by decide +kernel
  have c3 : (Str.ofString "names" == Str.ofString "gives") = false := by decide +kernel
  have c4 : (Str.ofString "names" == Str.ofString "params") = false := by decide +kernel
  have c5 : (Str.ofString "names" == Str.ofString "only") = false := by decide +kernel
  have d1 : ∀ z : Str, (z == z) = true := fun z => by simp
  unfold fldA hookG
  refine ⟨?_, ?_, ?_, ?_, ?_, ?_⟩ <;> simp only [List.lookup_cons, a1, a2, a3, a4, a5, a6, a7, b1, b2, b3, b4, c1, c2, c3, c4, c5, d1]
/-- a name that is a text -/
def inL (l : List Str) : PyData → Bool
  | .str z => decide (z ∈ l)
  | _ => false
theorem name_str {d : PyData} (h : isNameD d = true) : ∃ z, d = .str z ∧ z.length ≤ 8 := by
  cases d with
  | str z =>
    refine ⟨z, rfl, ?_⟩
    have h2 : isNameS z = true := h
    unfold isNameS at h2
    exact of_decide_eq_true (Bool.and_eq_true_iff.mp h2).1
  | _ => exact absurd h (by simp [isNameD])
/-- the texts among names -/
def strsOf (l : List PyData) : List Str := l.filterMap fun d => match d with
  | .str z => some z
  | _ => none
theorem strsOf_map : ∀ {l : List PyData}, (∀ d ∈ l, isNameD d = true) → l = (strsOf l).map PyData.str
  | [], _ => rfl
  | d :: l, h => by
    obtain ⟨z, rfl, _⟩ := name_str (h d (by simp))
    have := strsOf_map fun x hx => h x (List.mem_cons_of_mem _ hx)
    show PyData.str z :: l = PyData.str z :: (strsOf l).map PyData.str
    rw [← this]
/-- what is wrong with the i-th of the parameters l, the first w of them positional -/
def faultG (w : Nat) (l : List Pg) (i : Nat) (p : Pg) : Option Str :=
  if isNameD p.n = false then some "param" else if inL keptT p.n = true then some "param" else if inL (strsOf ((l.map Pg.n).take i)) p.n = true then some "twice" else if decide (p.s ∈ sortsT) = false then some "sort"
  else if isNone p.v = false then (if hasSortD p.v p.s = true then none else some "default") else if decide (i < w) && ((l.take i).any fun q => !isNone q.v) then some "default" else none
def optD : Option Str → PyData
  | none => .none
  | some z => .str z
def faultAt (w : Nat) (l : List Pg) (i : Nat) : Option Str := (l[i]?).bind fun p => faultG w l i p
theorem fault_name {w : Nat} {l : List Pg} {i : Nat} {p : Pg} (h : faultG w l i p = none) : isNameD p.n = true := by
  unfold faultG at h
  split at h
  · cases h
  · next e => simpa using e
theorem names_before {w : Nat} {l : List Pg} {i : Nat} (hi : i ≤ l.length) (h : ∀ j < i, faultAt w l j = none) : ∀ d ∈ (l.map Pg.n).take i, isNameD d = true := by
  intro d hd
  obtain ⟨j, hj, e⟩ := List.getElem_of_mem hd
  rw [List.length_take, List.length_map] at hj
  rw [List.getElem_take, List.getElem_map] at e
  have h2 := h j (by omega)
  unfold faultAt at h2
  rw [List.getElem?_eq_getElem (by omega)] at h2
  rw [← e]
  exact fault_name h2
def firstF (w : Nat) (l : List Pg) : Option (Str × PyData) := (List.range l.length).findSome? fun i => (l[i]?).bind fun p => (faultG w l i p).map fun z => (z, p.n)
theorem firstF_some {w : Nat} {l : List Pg} {i : Nat} {p : Pg} {z : Str} (hi : l[i]? = some p) (h : ∀ j < i, faultAt w l j = none) (e : faultG w l i p = some z) : firstF w l = some (z, p.n) := by
  unfold firstF
  have hl : i < l.length := (List.getElem?_eq_some_iff.mp hi).1
  rw [List.findSome?_eq_some_iff]
  refine ⟨List.range i, i, (List.range l.length).drop (i + 1), ?_, ?_, ?_⟩
  · apply List.ext_getElem?
    intro k
    by_cases h1 : k < i
    · rw [List.getElem?_append_left (by simpa using h1)]
      simp [h1, Nat.lt_trans h1 hl]
    · rw [List.getElem?_append_right (by simpa using Nat.le_of_not_lt h1), List.length_range]
      by_cases h2 : k = i
      · subst h2; simp [hl]
      · have h3 : k - i = (k - i - 1) + 1 := by omega
        rw [h3, List.getElem?_cons_succ, List.getElem?_drop]
        congr 1
        omega
  · rw [hi]
    show (faultG w l i p).map _ = _
    rw [e]; rfl
  · intro j hj
    have hj2 : j < i := by simpa using hj
    have h2 := h j hj2
    unfold faultAt at h2
    rw [List.getElem?_eq_getElem (by omega)] at h2 ⊢
    show (faultG w l j _).map _ = none
    have h3 : faultG w l j l[j] = none := h2
    rw [h3]; rfl
theorem firstF_none {w : Nat} {l : List Pg} (h : ∀ j < l.length, faultAt w l j = none) : firstF w l = none := by
  unfold firstF
  rw [List.findSome?_eq_none_iff]
  intro j hj
  have hj2 : j < l.length := by simpa using hj
  have h2 := h j hj2
  unfold faultAt at h2
  rw [List.getElem?_eq_getElem hj2] at h2 ⊢
  show (faultG w l j _).map _ = none
  have h3 : faultG w l j l[j] = none := h2
  rw [h3]; rfl
def thrBad : List Pg → Bool
  | [] => true
  | p :: _ => !isNone p.v
def givBad (g : Str) : List Pg → Bool
  | [] => false
  | p :: _ => !decide (g = p.s)
/-- what is wrong with a hook so told -/
def wrongG (name : PyData) (kind gives : Str) (ps qs : List Pg) : Option (Str × PyData) :=
  if isNameD name = false then some ("name", name) else if decide (kind ∈ kindsT) = false then some ("kind", name) else match firstF ps.length (ps ++ qs) with
  | some x => some x
  | none => if decide (ps.length + qs.length > 3) = true then some ("many", name) else
    if (decide (kind = "through") && thrBad ps) = true then some ("through", name) else
    if (decide (gives ∉ sortsT) || (decide (kind = "through") && givBad gives ps)) = true then some ("gives", name) else none
structure GenOk (name : PyData) (kind gives : Str) (ps qs : List Pg) : Prop where
  nm : shortD name
  kd : kind.length ≤ 100
  gv : gives.length ≤ 100
  len : ps.length + qs.length ≤ 20
  ok : ∀ p ∈ ps ++ qs, shortD p.n ∧ p.s.length ≤ 100 ∧ shortD p.v
def spFaultG (C : Addr) : List AV → Sto → Po → Prop := fun as S P => ∃ (q : Addr) (name : PyData) (kind gives : Str) (ps qs : List Pg) (i : Nat) (p : Pg), as = [.own q, .dat (.int i)] ∧ GenOk name kind gives ps qs ∧ (ps ++ qs)[i]? = some p ∧ (∀ j < i, faultAt ps.length (ps ++ qs) j = none) ∧
  S q = some (.ins C (hookG name kind gives ps qs)) ∧ P (.dat (optD (faultG ps.length (ps ++ qs) i p))) S
/-- refused: word and name of the error of the class at CI -/
def spCheckG (C CI : Addr) : List AV → Sto → Po → Px → Prop := fun as S P PX => ∃ (q : Addr) (name : PyData) (kind gives : Str) (ps qs : List Pg), as = [.own q] ∧ GenOk name kind gives ps qs ∧ S q = some (.ins C (hookG name kind gives ps qs)) ∧
  match wrongG name kind gives ps qs with
  | none => P (.dat .none) S
  | some (z, d) => PX CI [("name", .dat d), ("word", .dat (.str z))] S
def spHookNewG (C CI : Addr) : List AV → Sto → Po → Px → Prop := fun as S P PX => ∃ (q : Addr) (name : PyData) (kind gives : Str) (ps qs : List Pg), as = [.own q, .dat name, .dat (.str kind), .dat (.list (ps.map Pg.d)), .dat (.list (qs.map Pg.d)), .dat (.str gives)] ∧ GenOk name kind gives ps qs ∧ S q = some (.ins C []) ∧
  match wrongG name kind gives ps qs with
  | none => P (.dat .none) (S.set q (.ins C (hookG name kind gives ps qs)))
  | some (z, d) => PX CI [("name", .dat d), ("word", .dat (.str z))] (S.set q (.ins C (hookG name kind gives ps qs)))
end Ov
namespace Ov
open PySem PySem.Spec PyProof.Rows L2
/-! ## what is drawn of odd names, odd values -/
def oddN : List PyData := [.str "", .str "Size", .str "toolongword", .str "a1", .str " a", .int 5, .none, .bool true, .tuple [.str "a"], .list [.str "a"], .str "if", .str "inner", .str "unanswered", .str "with", .str "sizesize", .str "late"]
def oddV : List PyData := [.none, .int 3, .str "red", .bool true, .str "Red", .int (-7), .str "", .str "abcdefghi"]
def inLet (c : Nat) : Bool := !(Builtin.Str.occurrences lets ⟨#[c]⟩ 0 lets.length 1).isEmpty
def lawN (z : Str) : Bool := decide (0 < z.length) && (decide (z.length < 9) && (cs z).all inLet)
theorem inLet_low : ((List.range' 97 26).all inLet) = true := by decide +kernel
theorem lawN_name {z : Str} (h : NameOk z) : lawN z = true := by
  unfold lawN
  have h3 : (cs z).all inLet = true := by
    rw [List.all_eq_true]
    intro c hc
    have hl : lower c := h.2.2 c hc
    have h4 := List.all_eq_true.mp inLet_low c (by
      rw [List.mem_range']
      unfold lower at hl
      exact ⟨c - 97, by omega, by omega⟩)
    exact h4
  have h1 := h.1
  have h2 := h.2.1
  rw [h3, decide_eq_true (show 0 < z.length by omega), decide_eq_true (show z.length < 9 by omega)]
  rfl
/-- a thing of which both ways tell alike whether it is a name -/
def NmOk : PyData → Prop
  | .str z => lawN z = isNameS z ∧ z.length ≤ 100
  | _ => True
theorem nm_name {z : Str} (h : NameOk z) : NmOk (.str z) := ⟨(lawN_name h).trans (name_is h).symm, by have := h.2.1; omega⟩
theorem nm_odd {d : PyData} (h : d ∈ oddN) : NmOk d := by
  simp only [oddN, List.mem_cons, List.not_mem_nil, or_false] at h
  rcases h with rfl | rfl | rfl | rfl | rfl | rfl | rfl | rfl | rfl | rfl | rfl | rfl | rfl | rfl | rfl | rfl <;> first | exact trivial | exact ⟨by decide +kernel, by decide +kernel⟩
theorem nm_oddV {d : PyData} (h : d ∈ oddV) : NmOk d := by
  simp only [oddV, List.mem_cons, List.not_mem_nil, or_false] at h
  rcases h with rfl | rfl | rfl | rfl | rfl | rfl | rfl | rfl <;> first | exact trivial | exact ⟨by decide +kernel, by decide +kernel⟩
theorem nm_short {d : PyData} (h : NmOk d) : shortD d := by
  cases d with
  | str z => exact Nat.le_trans h.2 (by decide)
  | _ => exact trivial
/-! ## a < b < c -/
section
variable {K : PySem.W.Frag} {S : Sto} {δ : Dl} {P : Po} {r r' : R2} {ta tb tc : TE}
theorem we_chain (h : Ov.WE K ta δ S fun a S1 => Ov.WE K tb δ S1 fun b S2 => W2 K r a b S2 fun z S3 => ∃ k, z = .dat (.bool k) ∧ if k = true then Ov.WE K tc δ S3 fun c S4 => W2 K r' b c S4 P else P z S3) : Ov.WE K (tChain r r' ta tb tc) δ S P := fun σ H Q rs s k =>
  h σ H _ rs s fun x H1 a S1 g1 r1 w => w σ H1 _ g1.rs (s.go g1) fun y H2 b S2 g2 r2 w2 => w2 x y H2 _ g2.rs (r1.go g2) r2 fun z H3 c S3 g3 r3 ⟨kk, e, w3⟩ => by
    subst e
    cases r3
    refine ⟨kk, rfl, ?_⟩
    have g := (g1.trans g2).trans g3
    cases kk with
    | true => exact iteT ((iteT' w3) σ H3 _ g3.rs (s.go g) fun u H4 d S4 g4 r4 w4 => w4 y u H4 Q g4.rs ((r2.go g3).go g4) r4 fun v H' a' S' g' => k v H' a' S' ((g.trans g4).trans g'))
    | false => exact iteF (k _ H3 (.dat (.bool false)) S3 g (Dq.bl _) (iteF' w3))
theorem w2_notInLet {c : Nat} (p : P (.dat (.bool (!inLet c))) S) : W2 K (rInA K true) (.dat (.str ⟨#[c]⟩)) (.dat (.str lets)) S P := fun x y H Q rs ra rb k => by
  cases ra; cases rb
  exact .inr ⟨_, _, rfl, rfl, fin_d rs k (Dq.bl _) p⟩
/-- repr of None too -/
def rReprN (K : PySem.W.Frag) : List V → Hp → VK → Prop := fun xs H Q => rReprA K xs H Q ∨ (xs = [.non] ∧ Q (.str "None") H)
theorem call_reprN {X : Cx} (K : PySem.W.Frag) (hG : X.A.guards = some []) (hu : X.A.units + 64 < cLine) (h : X.K = K := by rfl) : CallR X (.builtin "repr") (rReprN K) := (call_reprA K hG hu h).or (by
  intro pins s σ H xs us Q I r q
  obtain ⟨rfl, q⟩ := q
  cases r with
  | cons r1 r2 =>
    cases r2
    cases r1
    exact PySem.P.repr_of_none ⟨.str "None", H, I.tok _, ⟨_, rfl⟩, q⟩)
theorem wc_reprN1 {as : List AV} (h : WC K (rReprA K) as S P) : WC K (rReprN K) as S P := fun xs H Q rs ra k => .inl (h xs H Q rs ra k)
theorem wc_reprN2 (p : P (.dat (.str "None")) S) : WC K (rReprN K) [.dat .none] S P := fun xs H Q rs ra k => by
  cases ra with
  | cons r1 r2 => cases r2; cases r1; exact .inr ⟨rfl, fin_d rs k (Dq.str _) p⟩
end
end Ov
namespace Ov
open PySem PySem.Spec PyProof.Rows L2
/-! ## dicts: in, get, sorted, copied, made of pairs -/
section
variable {K : PySem.W.Frag} {S : Sto} {H : Hp} {δ : Dl} {P : Po} {td ty tx : TE} {q : Addr} {kvs : List (Key × AV)}
theorem RKs.valO {k : Key} : ∀ {vs : List (Key × V)} {as : List (Key × AV)}, RKs K S H vs as → (valV vs k).isSome = (valA as k).isSome
  | _, _, .nil => rfl
  | _, _, @RKs.cons _ _ _ k' v a vs as r t => by
    have ih := RKs.valO (k := k) t
    unfold valV valA at ih ⊢
    rw [List.find?_cons, List.find?_cons]
    by_cases h : k' = k
    · rw [decide_eq_true (show ((k', v) : Key × V).1 = k from h)]; rfl
    · rw [decide_eq_false (show ¬ ((k', v) : Key × V).1 = k from h)]
      exact ih
theorem we_din (h : Ov.WE K ty δ S fun b S1 => Ov.WE K td δ S1 fun a S2 => ∃ q kvs k, a = .own q ∧ b = keyA k ∧ S2 q = some (.dct kvs) ∧ P (.dat (.bool (valA kvs k).isSome)) S2) : Ov.WE K (tDIn ty td) δ S P := fun σ H Q rs s kk =>
  h σ H _ rs s fun y H1 b S1 g1 r1 w => w σ H1 _ g1.rs (s.go g1) fun x H2 a S2 g2 r2 ⟨q, as, k, e1, e2, e3, p⟩ => by
    subst e1 e2
    cases r2
    obtain ⟨kvs, q1, q2⟩ := g2.rs q _ e3
    have := ra_key (r1.go g2)
    subst this
    refine ⟨q, _, rfl, DGet.k q1, ?_⟩
    rw [q2.valO]
    exact kk _ H2 (.dat (.bool _)) S2 (g1.trans g2) (Dq.bl _) p
theorem we_dnotin (h : Ov.WE K ty δ S fun b S1 => Ov.WE K td δ S1 fun a S2 => ∃ q kvs k, a = .own q ∧ b = keyA k ∧ S2 q = some (.dct kvs) ∧ P (.dat (.bool (!(valA kvs k).isSome))) S2) : Ov.WE K (tDNotIn ty td) δ S P := fun σ H Q rs s kk =>
  h σ H _ rs s fun y H1 b S1 g1 r1 w => w σ H1 _ g1.rs (s.go g1) fun x H2 a S2 g2 r2 ⟨q, as, k, e1, e2, e3, p⟩ => by
    subst e1 e2
    cases r2
    obtain ⟨kvs, q1, q2⟩ := g2.rs q _ e3
    have := ra_key (r1.go g2)
    subst this
    refine ⟨q, _, rfl, DGet.k q1, ?_⟩
    rw [q2.valO]
    exact kk _ H2 (.dat (.bool _)) S2 (g1.trans g2) (Dq.bl _) p
/-- d.get(k, x) -/
theorem we_dget2K (h : Ov.WE K td δ S fun a S1 => ∃ q kvs0, a = .own q ∧ S1 q = some (.dct kvs0) ∧ Ov.WE K ty δ S1 fun b S2 => Ov.WE K tx δ S2 fun c S3 => ∃ kvs k, b = keyA k ∧ S3 q = some (.dct kvs) ∧ P ((valA kvs k).getD c) S3) : Ov.WE K (tDGet2 td ty tx) δ S P := fun σ H Q rs s kk =>
  h σ H _ rs s fun x H1 a S1 g1 r1 ⟨q, kvs0, e1, e0, w⟩ => by
    subst e1
    cases r1
    obtain ⟨vs0, z0, _⟩ := g1.rs q _ e0
    refine ⟨q, rfl, .inl ⟨vs0, .inl z0⟩, w σ H1 _ g1.rs (s.go g1) fun y H2 b S2 g2 r2 w2 => w2 σ H2 _ g2.rs ((s.go g1).go g2) fun z H3 c S3 g3 r3 ⟨as, k, e2, e3, p⟩ => ?_⟩
    subst e2
    obtain ⟨kvs, q1, q2⟩ := g3.rs q _ e3
    have := ra_key (r2.go g3)
    subst this
    refine ⟨_, DGet.k q1, ?_⟩
    have g := (g1.trans g2).trans g3
    cases hv : valA as k with
    | some c' =>
      obtain ⟨v, v1, v2⟩ := q2.val hv
      rw [v1]
      rw [hv] at p
      exact kk v H3 c' S3 g v2 p
    | none =>
      have hn : valV kvs k = none := by
        have e := q2.valO (k := k)
        rw [hv] at e
        cases hz : valV kvs k with
        | none => rfl
        | some _ => rw [hz] at e; cases e
      rw [hn]
      rw [hv] at p
      exact kk z H3 c S3 g r3 p
/-- sorted(d), the keys texts -/
def rSortedD : List V → Hp → VK → Prop := fun xs H Q => ∃ (a : Addr) (kvs : List (Key × V)) (ks : List Str), xs = [.ref a] ∧ Rd H a (.dK kvs) ∧ kvs.map (·.1) = ks.map Sum.inr ∧ ks.length < 64 ∧
    ∀ ys p, ys.Perm ks → sortedS ys = true → H p = none → Q (.ref p) (upd H p (.lst (ys.map V.str)))
theorem call_sortedDk {X : Cx} (hcalm : X.calm = true) : CallR X (.builtin "sorted") rSortedD := call_sortedD hcalm
theorem wc_sortedD {ks : List Str} (hq : S q = some (.dct kvs)) (hk : kvs.map (·.1) = ks.map Sum.inr) (h64 : ks.length < 64) (p : ∀ ys : List Str, ys.Perm ks → sortedS ys = true → P (.dat (.list (ys.map PyData.str))) S) : WC K rSortedD [.own q] S P := fun xs H Q rs ra k => by
  cases ra with
  | cons r1 r2 =>
    cases r2
    cases r1
    obtain ⟨vs, q1, q2⟩ := rs q _ hq
    refine ⟨q, vs, ks, rfl, .inl q1, by rw [q2.keys]; exact hk, h64, fun ys a hp hs ha => ?_⟩
    exact fin_newL rs k (dq_strs ys) (p ys hp hs) ha
/-- dict(d) -/
def rDictD : List V → Hp → VK → Prop := fun xs H Q => ∃ (a : Addr) (kvs : List (Key × V)), xs = [.ref a] ∧ Rd H a (.dK kvs) ∧ ∀ p, H p = none → Q (.ref p) (upd H p (.dK kvs))
theorem call_dictDk {X : Cx} : CallR X (.type "dict") rDictD := call_dictD
theorem wc_dictD (hq : S q = some (.dct kvs)) (p : ∀ a, S a = none → P (.own a) (S.set a (.dct kvs))) : WC K rDictD [.own q] S P := fun xs H Q rs ra k => by
  cases ra with
  | cons r1 r2 =>
    cases r2
    cases r1
    obtain ⟨vs, q1, q2⟩ := rs q _ hq
    refine ⟨q, vs, rfl, .inl q1, fun a ha => ?_⟩
    have g0 : Go K S H (S.set a (.dct kvs)) (upd H a (.dK vs)) := Go.own rs ha fun S' H' e z => ⟨vs, z, q2.up e⟩
    exact k _ _ (.own a) _ g0 rfl (p a (rs.none_of ha))
/-- dict(pairs), no key twice -/
def rDictP (K : PySem.W.Frag) : List V → Hp → VK → Prop := fun xs H Q => ∃ (a : Addr) (ps : List Addr) (kvs : List (Key × V)), xs = [.ref a] ∧ SqL K H a (ps.map V.ref) ∧ Paired (fun p kv => SqT K H p [kV kv.1, kv.2]) ps kvs ∧ ∀ p, H p = none → Q (.ref p) (upd H p (.dK (mergeK [] kvs)))
theorem call_dictPk {X : Cx} (hcalm : X.calm = true) : CallR X (.type "dict") (rDictP X.K) := call_dictP hcalm
def pairD (kv : Str × PyData) : PyData := .tuple [.str kv.1, kv.2]
theorem prs_of {H0 : Hp} : ∀ {prs : List (Str × PyData)} {xs : List V}, DqAll K (msk S H) xs (prs.map pairD) → ∃ (ps : List Addr) (kvs : List (Key × V)), xs = ps.map V.ref ∧ Paired (fun p kv => SqT K H p [kV kv.1, kv.2]) ps kvs ∧ RKs K S H kvs (prs.map fun kv => (Sum.inr kv.1, .dat kv.2))
  | [], _, .nil => ⟨[], [], rfl, .nil, .nil⟩
  | (k, d) :: prs, _, .cons h r => by
    obtain ⟨ps, kvs, rfl, h2, h3⟩ := prs_of (H0 := H0) r
    cases h with
    | @tup a xs _ h4 h5 =>
      cases h5 with
      | cons h6 h7 =>
        cases h7 with
        | cons h8 h9 =>
          cases h9
          cases h6
          exact ⟨a :: ps, (Sum.inr k, _) :: kvs, rfl, .cons (ex_t msk_ex h4) h2, .cons h8 h3⟩
theorem wc_dictP {a : AV} {prs : List (Str × PyData)} (na : Nw S a (.list (prs.map pairD))) (nd : (prs.map (·.1)).Nodup) (p : ∀ q, S q = none → P (.own q) (S.set q (.dct (prs.map fun kv => (Sum.inr kv.1, .dat kv.2))))) : WC K (rDictP K) [a] S P := fun xs H Q rs ra k => by
  cases ra with
  | cons r1 r2 =>
    cases r2
    obtain ⟨p1, xs, rfl, h1, h2⟩ := na.list rs r1
    obtain ⟨ps, kvs, rfl, h3, h4⟩ := prs_of (H0 := H) h2
    refine ⟨p1, ps, kvs, rfl, SqL.of h1, h3, fun q hq => ?_⟩
    have hk : (kvs.map (·.1)).Nodup := by
      rw [h4.keys, List.map_map]
      have : (((fun x => x.1) : Key × AV → Key) ∘ fun kv : Str × PyData => ((Sum.inr kv.1, AV.dat kv.2) : Key × AV)) = (Sum.inr ∘ fun kv : Str × PyData => kv.1) := rfl
      rw [this, ← List.map_map]
      exact List.Pairwise.map _ (fun a b h e => h (Sum.inr.inj e)) nd
    rw [mergeK_nodup hk]
    have g0 : Go K S H (S.set q (.dct (prs.map fun kv => (Sum.inr kv.1, .dat kv.2)))) (upd H q (.dK kvs)) := Go.own rs hq fun S' H' e z => ⟨kvs, z, h4.up e⟩
    exact k _ _ (.own q) _ g0 rfl (p q (rs.none_of hq))
end
end Ov
namespace Ov
open PySem PySem.Spec PyProof.Rows L2
/-! ## texts of data that may hold dicts -/
mutual
inductive Rz (h : Heap) : Value → PyData → Prop
  | none : Rz h .none .none
  | bool (b : Bool) : Rz h (.bool b) (.bool b)
  | int (i : Int) (t : Tok) : Rz h (.int i t) (.int i)
  | str (x : Str) (t : Tok) : Rz h (.str x t) (.str x)
  | list {a : Addr} {o : Obj} {vs : Array Value} {n : Nat} {xs : List PyData} : h.get? a = some o → o.cls = .type "list" → o.data = .seq vs n → RzAll h vs.toList xs → Rz h (.ref a) (.list xs)
  | tuple {a : Addr} {o : Obj} {vs : Array Value} {n : Nat} {xs : List PyData} : h.get? a = some o → o.cls = .type "tuple" → o.data = .seq vs n → RzAll h vs.toList xs → Rz h (.ref a) (.tuple xs)
  | dict {a : Addr} {o : Obj} {es : Array DictEntry} {n : Nat} {kvs : List (PyData × PyData)} : h.get? a = some o → o.cls = .type "dict" → o.data = .dict es n → (a == sysModules) = false → RzAll h (es.toList.map (·.key)) (kvs.map (·.1)) → RzAll h (es.toList.map (·.val)) (kvs.map (·.2)) → Rz h (.ref a) (.dict kvs)
inductive RzAll (h : Heap) : List Value → List PyData → Prop
  | nil : RzAll h [] []
  | cons {v : Value} {vs : List Value} {d : PyData} {ds : List PyData} : Rz h v d → RzAll h vs ds → RzAll h (v :: vs) (d :: ds)
end
mutual
theorem Rz.reads {h : Heap} : ∀ {v : Value} {d : PyData}, Rz h v d → ∃ as, Reads h v d as
  | _, _, .none => ⟨_, .none⟩
  | _, _, .bool b => ⟨_, .bool b⟩
  | _, _, .int i t => ⟨_, .int i t⟩
  | _, _, .str x t => ⟨_, .str x t⟩
  | _, _, .list h1 h2 h3 h4 => let ⟨_, r⟩ := RzAll.reads h4; ⟨_, .list h1 h2 h3 r⟩
  | _, _, .tuple h1 h2 h3 h4 => let ⟨_, r⟩ := RzAll.reads h4; ⟨_, .tuple h1 h2 h3 r⟩
  | _, _, .dict h1 h2 h3 _ h4 h5 => let ⟨_, r⟩ := RzAll.reads h4; let ⟨_, r2⟩ := RzAll.reads h5; ⟨_, .dict h1 h2 h3 r r2⟩
theorem RzAll.reads {h : Heap} : ∀ {vs : List Value} {ds : List PyData}, RzAll h vs ds → ∃ as, ReadsAll h vs ds as
  | _, _, .nil => ⟨_, .nil⟩
  | _, _, .cons h1 h2 => let ⟨_, r⟩ := Rz.reads h1; let ⟨_, r2⟩ := RzAll.reads h2; ⟨_, .cons r r2⟩
end
section
variable {prog : Program} {w : World} {h₀ : Heap}
mutual
theorem Rz.repr : ∀ {v : Value} {d : PyData}, Rz h₀ v d → d.showable = true → d.shown.length ≤ sizeLine → ∃ bs, ReadAtMost h₀ d.depth bs ∧ ReprK prog w bs h₀ d.depth v d.shown
  | _, _, .none, _, _ => ⟨[], (fun _ h => nomatch h), by simp only [PyData.shown]; exact .of_is ReprIs.none _ _ _⟩
  | _, _, .bool b, _, _ => ⟨[], (fun _ h => nomatch h), by simp only [PyData.shown]; exact .of_is (ReprIs.bool b) _ _ _⟩
  | _, _, .int i t, hs, _ => ⟨[], (fun _ h => nomatch h), by simp only [PyData.shown]; exact .of_is (ReprIs.int t (by simpa [PyData.showable] using hs)) _ _ _⟩
  | _, _, .str x t, _, hz => ⟨[], (fun _ h => nomatch h), by simp only [PyData.shown]; exact .of_is (ReprIs.str x t (by simpa only [PyData.shown] using hz)) _ _ _⟩
  | _, _, .list (a := a) (vs := vs) (xs := xs) h1 h2 h3 h4, hs, hz => by
    have hz' : (listText (PyData.shownAll xs)).length ≤ sizeLine := by simpa only [PyData.shown] using hz
    obtain ⟨bs, hb, hk⟩ := RzAll.repr h4 (by simpa [PyData.showable] using hs) (fun t ht => Nat.le_trans (listText_mem_le ht) hz')
    obtain ⟨as, rr⟩ := h4.reads
    have r : Reads h₀ (.ref a) (.list xs) _ := .list h1 h2 h3 rr
    have hna : a ∉ bs := not_mem_of_deeper r (by simp only [PyData.depth]; omega) hb
    refine ⟨a :: bs, ReadAtMost.cons r (by simp only [PyData.depth]; omega) hb, ?_⟩
    simp only [PyData.depth, PyData.shown]
    obtain ⟨l⟩ := vs
    cases l with
    | nil =>
      have h4' : RzAll h₀ [] xs := h4
      cases h4'
      simp only [PyData.shownAll, listText_nil]
      exact ReprK.listEmpty h1 h2 h3
    | cons x l => exact ReprK.list h1 h2 h3 hna (by simpa using hk.length_eq) (fun i y e => hk.item i y (by simpa using e))
  | _, _, .tuple (a := a) (xs := xs) h1 h2 h3 h4, hs, hz => by
    have hz' : (tupleText (PyData.shownAll xs)).length ≤ sizeLine := by simpa only [PyData.shown] using hz
    obtain ⟨bs, hb, hk⟩ := RzAll.repr h4 (by simpa [PyData.showable] using hs) (fun t ht => Nat.le_trans (tupleText_mem_le ht) hz')
    obtain ⟨as, rr⟩ := h4.reads
    have r : Reads h₀ (.ref a) (.tuple xs) _ := .tuple h1 h2 h3 rr
    have hna : a ∉ bs := not_mem_of_deeper r (by simp only [PyData.depth]; omega) hb
    refine ⟨a :: bs, ReadAtMost.cons r (by simp only [PyData.depth]; omega) hb, ?_⟩
    simp only [PyData.depth, PyData.shown]
    exact ReprK.tuple h1 h2 h3 hna hk
  | _, _, .dict (a := a) (es := es) (kvs := kvs) h1 h2 h3 hsys h4 h5, hs, hz => by
    have hz' : (dictText (PyData.shownKv kvs)).length ≤ sizeLine := by simpa only [PyData.shown] using hz
    obtain ⟨hs1, hs2⟩ := PyData.showableKv_split kvs (by simpa [PyData.showable] using hs)
    obtain ⟨b1, hb1, k1⟩ := RzAll.repr h4 hs1 (fun t ht => let ⟨p, hp, hl⟩ := PyData.shownKv_key_le kvs t ht; Nat.le_trans hl (Nat.le_trans (dictText_mem_le hp) hz'))
    obtain ⟨b2, hb2, k2⟩ := RzAll.repr h5 hs2 (fun t ht => let ⟨p, hp, hl⟩ := PyData.shownKv_val_le kvs t ht; Nat.le_trans hl (Nat.le_trans (dictText_mem_le hp) hz'))
    obtain ⟨as1, rr1⟩ := h4.reads
    obtain ⟨as2, rr2⟩ := h5.reads
    have r : Reads h₀ (.ref a) (.dict kvs) _ := .dict h1 h2 h3 rr1 rr2
    have hb : ReadAtMost h₀ (PyData.depthKv kvs) (b1 ++ b2) := (hb1.mono (PyData.depthAll_keys_le kvs)).append (hb2.mono (PyData.depthAll_vals_le kvs))
    have hna : a ∉ b1 ++ b2 := not_mem_of_deeper r (by simp only [PyData.depth]; omega) hb
    refine ⟨a :: (b1 ++ b2), ReadAtMost.cons r (by simp only [PyData.depth]; omega) hb, ?_⟩
    simp only [PyData.depth, PyData.shown, PyData.shownKv_eq]
    exact ReprK.dict h1 h2 h3 hsys hna (ReprEntriesK.of_two es.toList _ _
      (k1.more_le (fun b hb => List.mem_append_left _ hb) (PyData.depthAll_keys_le kvs)) (k2.more_le (fun b hb => List.mem_append_right _ hb) (PyData.depthAll_vals_le kvs)))
theorem RzAll.repr : ∀ {vs : List Value} {ds : List PyData}, RzAll h₀ vs ds → PyData.showableAll ds = true → (∀ t ∈ PyData.shownAll ds, t.length ≤ sizeLine) →
    ∃ bs, ReadAtMost h₀ (PyData.depthAll ds) bs ∧ ReprAllK prog w bs h₀ (PyData.depthAll ds) vs (PyData.shownAll ds)
  | _, _, .nil, _, _ => ⟨[], (fun _ h => nomatch h), by simp only [PyData.shownAll]; exact .nil⟩
  | _, _, .cons (d := d) (ds := ds) r rs, hs, hz => by
    have hs' : d.showable = true ∧ PyData.showableAll ds = true := by simpa [PyData.showableAll] using hs
    obtain ⟨b1, hb1, k1⟩ := Rz.repr r hs'.1 (hz _ (by simp only [PyData.shownAll]; exact List.mem_cons_self ..))
    obtain ⟨b2, hb2, k2⟩ := RzAll.repr rs hs'.2 (fun t ht => hz t (by simp only [PyData.shownAll]; exact List.mem_cons_of_mem _ ht))
    refine ⟨b1 ++ b2, ?_, ?_⟩
    · intro b hm
      simp only [PyData.depthAll]
      rcases List.mem_append.mp hm with hm | hm
      · obtain ⟨d', as', r', hd'⟩ := hb1 b hm
        exact ⟨d', as', r', Nat.le_trans hd' (Nat.le_max_left _ _)⟩
      · obtain ⟨d', as', r', hd'⟩ := hb2 b hm
        exact ⟨d', as', r', Nat.le_trans hd' (Nat.le_max_right _ _)⟩
    · simp only [PyData.depthAll, PyData.shownAll]
      exact .cons ((k1.more fun b hb => List.mem_append_left _ hb).level_le (Nat.le_max_left _ _)) (k2.more_le (fun b hb => List.mem_append_right _ hb) (Nat.le_max_right _ _))
end
theorem Rz.shows {a : Addr} {d : PyData} (r : Rz h₀ (.ref a) d) (hs : d.showable = true) (hsz : d.shown.length ≤ sizeLine) : ∃ T idr, ShowsBy prog w h₀ a d T idr := by
  cases r with
  | @list _ o vs n xs h1 h2 h3 h4 =>
    have hz' : (listText (PyData.shownAll xs)).length ≤ sizeLine := by simpa only [PyData.shown] using hsz
    obtain ⟨bs, hb, hk⟩ := RzAll.repr (prog := prog) (w := w) h4 (by simpa [PyData.showable] using hs) (fun t ht => Nat.le_trans (listText_mem_le ht) hz')
    obtain ⟨as, rr⟩ := h4.reads
    have hna : a ∉ bs := not_mem_of_deeper (.list h1 h2 h3 rr) (by simp only [PyData.depth]; omega) hb
    refine ⟨"list", "list.__repr__", F.slot_list_repr.toG, F.slot_list_str, F.slot_list_format, fun s hk0 => ⟨o, hk0 _ _ h1, h2⟩, fun A E s Q hg hu hk0 hQ => ?_⟩
    simp only [PyData.depth] at hu
    simp only [PyData.shown] at hQ
    obtain ⟨l⟩ := vs
    cases l with
    | nil =>
      have h4' : RzAll h₀ [] xs := h4
      cases h4'
      simp only [PyData.shownAll, listText_nil] at hQ
      exact call_list_repr_empty ⟨o, hk0 _ _ h1, h2⟩ (hk0 _ _ h1) h3 (hQ s.heap _ _ fun _ _ e => e)
    | cons x l =>
      exact call_list_reprK h1 h2 h3 hna (by simpa using hk.length_eq) (fun i y e => hk.item i y (by simpa using e)) hg (fun b _ => Clear.nil b) hu hk0 hQ hz'
  | @tuple _ o vs n xs h1 h2 h3 h4 =>
    have hz' : (tupleText (PyData.shownAll xs)).length ≤ sizeLine := by simpa only [PyData.shown] using hsz
    obtain ⟨bs, hb, hk⟩ := RzAll.repr (prog := prog) (w := w) h4 (by simpa [PyData.showable] using hs) (fun t ht => Nat.le_trans (tupleText_mem_le ht) hz')
    obtain ⟨as, rr⟩ := h4.reads
    have hna : a ∉ bs := not_mem_of_deeper (.tuple h1 h2 h3 rr) (by simp only [PyData.depth]; omega) hb
    refine ⟨"tuple", "tuple.__repr__", F.slot_tuple_repr, F.slot_tuple_str, F.slot_tuple_format, fun s hk0 => ⟨o, hk0 _ _ h1, h2⟩, fun A E s Q hg hu hk0 hQ => ?_⟩
    simp only [PyData.depth] at hu
    simp only [PyData.shown] at hQ
    exact call_tuple_reprK h1 h2 h3 hna hk hg (fun b _ => Clear.nil b) hu hk0 hQ hz'
  | @dict _ o es n kvs h1 h2 h3 hsys h4 h5 =>
    have hz' : (dictText (PyData.shownKv kvs)).length ≤ sizeLine := by simpa only [PyData.shown] using hsz
    obtain ⟨hs1, hs2⟩ := PyData.showableKv_split kvs (by simpa [PyData.showable] using hs)
    obtain ⟨b1, hb1, k1⟩ := RzAll.repr (prog := prog) (w := w) h4 hs1 (fun t ht => let ⟨p, hp, hl⟩ := PyData.shownKv_key_le kvs t ht; Nat.le_trans hl (Nat.le_trans (dictText_mem_le hp) hz'))
    obtain ⟨b2, hb2, k2⟩ := RzAll.repr (prog := prog) (w := w) h5 hs2 (fun t ht => let ⟨p, hp, hl⟩ := PyData.shownKv_val_le kvs t ht; Nat.le_trans hl (Nat.le_trans (dictText_mem_le hp) hz'))
    obtain ⟨as1, rr1⟩ := h4.reads
    obtain ⟨as2, rr2⟩ := h5.reads
    have hb : ReadAtMost h₀ (PyData.depthKv kvs) (b1 ++ b2) := (hb1.mono (PyData.depthAll_keys_le kvs)).append (hb2.mono (PyData.depthAll_vals_le kvs))
    have hna : a ∉ b1 ++ b2 := not_mem_of_deeper (.dict h1 h2 h3 rr1 rr2) (by simp only [PyData.depth]; omega) hb
    refine ⟨"dict", "dict.__repr__", F.slot_dict_repr, F.slot_dict_str, F.slot_dict_format, fun s hk0 => ⟨o, hk0 _ _ h1, h2⟩, fun A E s Q hg hu hk0 hQ => ?_⟩
    simp only [PyData.depth] at hu
    simp only [PyData.shown, PyData.shownKv_eq] at hQ
    exact call_dict_reprK h1 h2 h3 hsys hna (ReprEntriesK.of_two es.toList _ _
      (k1.more_le (fun b hb => List.mem_append_left _ hb) (PyData.depthAll_keys_le kvs)) (k2.more_le (fun b hb => List.mem_append_right _ hb) (PyData.depthAll_vals_le kvs))) hg (fun b _ => Clear.nil b) hu hk0 hQ (by rw [← PyData.shownKv_eq]; exact hz')
end
section
variable {X : Cx} {pins : List (Addr × Obj)} {σ : L2.St} {H : Hp} {s : Shared}
theorem key_rz {h : Heap} {k : Key} {u : Value} (e : keyIs k u = true) : Rz h u (kD k) := by
  rcases keyIs_shape e with ⟨i, t, rfl, rfl⟩ | ⟨x, t, rfl, rfl⟩
  · exact .int i t
  · exact .str x t
mutual
theorem Dq.rz (I : Inv X pins σ H s) : ∀ {v : V} {d : PyData} (u : Value), Dq X.K H v d → RelV v u → Rz s.heap u d
  | _, _, _, .non, r => by cases r; exact .none
  | _, _, _, .bl b, r => by cases r; exact .bool b
  | _, _, _, .int i, r => by obtain ⟨t, rfl⟩ := r; exact .int i t
  | _, _, _, .str x, r => by obtain ⟨t, rfl⟩ := r; exact .str x t
  | _, _, _, .lst hs ha, r => by
    cases r
    obtain ⟨its, rv, ⟨o, n, ho, hc, _, hd⟩, _⟩ := I.list (SqL.of hs)
    exact .list ho hc hd (DqAll.rz I its ha rv)
  | _, _, _, .tup hs ha, r => by
    cases r
    obtain ⟨its, rv, ⟨o, ho, hc, n, hd⟩, _⟩ := I.tuple hs
    exact .tuple ho hc hd (DqAll.rz I its ha rv)
  | _, _, _, .dct (a := a) hs ha, r => by
    cases r
    obtain ⟨_, hsys, vs, kv, o, es, ep, ho, hx, hd, _, hp, _⟩ := I.hok a _ hs
    obtain ⟨h1, h2⟩ := DqKs.rz I vs es.toList ha kv hp
    exact .dict ho hx.1 hd hsys h1 h2
theorem DqAll.rz (I : Inv X pins σ H s) : ∀ {vs : List V} {ds : List PyData} (us : List Value), DqAll X.K H vs ds → Vals vs us → RzAll s.heap us ds
  | _, _, _, .nil, r => by cases r; exact .nil
  | _, _, _, .cons h1 h2, r => by
    cases r with
    | cons r1 r2 => exact .cons (Dq.rz I _ h1 r1) (DqAll.rz I _ h2 r2)
theorem DqKs.rz (I : Inv X pins σ H s) : ∀ {kvs : List (Key × V)} {ds : List (PyData × PyData)} (vs : List (Key × Value)) (es : List DictEntry), DqKs X.K H kvs ds → KV kvs vs → Pairs (mixKind X.prog X.w) es vs → RzAll s.heap (es.map (·.key)) (ds.map (·.1)) ∧ RzAll s.heap (es.map (·.val)) (ds.map (·.2))
  | _, _, _, _, .nil, r, p => by cases r; cases p; exact ⟨.nil, .nil⟩
  | _, _, _, _, .cons h1 h2, r, p => by
    cases r with
    | cons r1 r2 =>
      cases p with
      | cons p1 p2 p3 =>
        obtain ⟨q1, q2⟩ := DqKs.rz I _ _ h2 r2 p3
        have e := r1.1
        dsimp only at e
        subst e
        refine ⟨.cons (key_rz p1) q1, .cons ?_ q2⟩
        have z := Dq.rz I _ h1 r1.2
        rw [← p2] at z
        exact z
end
def rReprZ (K : PySem.W.Frag) : List V → Hp → VK → Prop := fun xs H Q => ∃ x d, xs = [x] ∧ Dq K H x d ∧ (∃ p, x = .ref p) ∧ d.showable = true ∧ d.depth ≤ 60 ∧ d.shown.length ≤ sizeLine ∧ Q (.str d.shown) H
theorem call_reprZ' {X : Cx} (hG : X.A.guards = some []) (hu : X.A.units + 64 < cLine) : CallR X (.builtin "repr") (rReprZ X.K) := by
  intro pins s σ H xs us Q I r h
  obtain ⟨x, d, rfl, hd, ⟨p, rfl⟩, h1, h3, h4, q⟩ := h
  cases r with
  | cons r1 r2 =>
    cases r2
    have rz := hd.rz I _ r1
    cases r1
    obtain ⟨T, idr, S⟩ := Rz.shows (prog := X.prog) (w := X.w) rz h1 h4
    exact call_repr_slot (by omega) (S.typeIs s fun _ _ e => e) S.slotRepr (S.call X.A.in1 _ s _ hG (by show X.A.units + 1 + d.depth < cLine; omega) (fun _ _ e => e) fun h' u tk kp => ⟨_, _, rfl, ⟨.str d.shown, H, I.kept (t' := tk) kp, ⟨u, rfl⟩, q⟩⟩)
end
theorem call_reprZ {X : Cx} (K : PySem.W.Frag) (hG : X.A.guards = some []) (hu : X.A.units + 64 < cLine) (h : X.K = K := by rfl) : CallR X (.builtin "repr") (rReprZ K) := by subst h; exact call_reprZ' hG hu
/-! what a value reads as, all through -/
mutual
inductive DN (S : Sto) : AV → PyData → Prop
  | dat (d : PyData) : DN S (.dat d) d
  | lst {p : Addr} {as : List AV} {ds : List PyData} : S p = some (.lst as) → DNs S as ds → DN S (.own p) (.list ds)
  | dct {p : Addr} {as : List (Key × AV)} {ds : List (PyData × PyData)} : S p = some (.dct as) → DNk S as ds → DN S (.own p) (.dict ds)
inductive DNs (S : Sto) : List AV → List PyData → Prop
  | nil : DNs S [] []
  | cons {a : AV} {as : List AV} {d : PyData} {ds : List PyData} : DN S a d → DNs S as ds → DNs S (a :: as) (d :: ds)
inductive DNk (S : Sto) : List (Key × AV) → List (PyData × PyData) → Prop
  | nil : DNk S [] []
  | cons {k : Key} {a : AV} {as : List (Key × AV)} {d : PyData} {ds : List (PyData × PyData)} : DN S a d → DNk S as ds → DNk S ((k, a) :: as) ((kD k, d) :: ds)
end
section
variable {K : PySem.W.Frag} {S : Sto} {H : Hp} {P : Po} {δ : Dl}
mutual
theorem DN.dq (rs : RS K S H) : ∀ {a : AV} {d : PyData} {v : V}, DN S a d → RA K S H v a → Dq K H v d
  | _, _, _, .dat d, r => dp_up msk_ex r
  | _, _, _, .lst e h, r => by
    cases r
    obtain ⟨xs, h1, h2⟩ := rs _ _ e
    exact .lst h1 (DNs.dq rs h h2)
  | _, _, _, .dct e h, r => by
    cases r
    obtain ⟨xs, h1, h2⟩ := rs _ _ e
    exact .dct h1 (DNk.dq rs h h2)
theorem DNs.dq (rs : RS K S H) : ∀ {as : List AV} {ds : List PyData} {vs : List V}, DNs S as ds → RAs K S H vs as → DqAll K H vs ds
  | _, _, _, .nil, r => by cases r; exact .nil
  | _, _, _, .cons h1 h2, r => by
    cases r with
    | cons r1 r2 => exact .cons (DN.dq rs h1 r1) (DNs.dq rs h2 r2)
theorem DNk.dq (rs : RS K S H) : ∀ {as : List (Key × AV)} {ds : List (PyData × PyData)} {vs : List (Key × V)}, DNk S as ds → RKs K S H vs as → DqKs K H vs ds
  | _, _, _, .nil, r => by cases r; exact .nil
  | _, _, _, .cons h1 h2, r => by
    cases r with
    | cons r1 r2 => exact .cons (DN.dq rs h1 r1) (DNk.dq rs h2 r2)
end
theorem wc_reprZ {a : AV} {d : PyData} (n : DN S a d) (hc : (∃ p, a = .own p) ∨ (∃ l, d = .list l) ∨ (∃ l, d = .tuple l) ∨ ∃ l, d = .dict l) (h1 : d.showable = true) (h3 : d.depth ≤ 60) (h4 : d.shown.length ≤ 10000000) (p : P (.dat (.str d.shown)) S) : WC K (rReprZ K) [a] S P := fun xs H Q rs ra k => by
  cases ra with
  | cons r1 r2 =>
    cases r2
    have hd := n.dq rs r1
    refine ⟨_, d, rfl, hd, ?_, h1, h3, Nat.le_trans h4 (by decide), fin_d rs k (Dq.str _) p⟩
    rcases hc with ⟨p, rfl⟩ | ⟨l, rfl⟩ | ⟨l, rfl⟩ | ⟨l, rfl⟩
    · cases r1; exact ⟨_, rfl⟩
    · cases hd; exact ⟨_, rfl⟩
    · cases hd; exact ⟨_, rfl⟩
    · cases hd; exact ⟨_, rfl⟩
end
end Ov
namespace Ov
open PySem PySem.Spec PyProof.Rows L2
/-! ## sorted texts are told by their texts -/
theorem lt_anti : ∀ a b : List Nat, ltCps a b = false → ltCps b a = false → a = b
  | [], [], _, _ => rfl
  | [], _ :: _, h, _ => by simp [ltCps] at h
  | _ :: _, [], _, h => by simp [ltCps] at h
  | a :: r, b :: t, h1, h2 => by
    simp only [ltCps, Bool.or_eq_false_iff, decide_eq_false_iff_not, Bool.and_eq_false_iff, beq_eq_false_iff_ne] at h1 h2
    have e : a = b := by omega
    subst e
    have q1 : ltCps r t = false := by rcases h1.2 with h | h; exact absurd rfl h; exact h
    have q2 : ltCps t r = false := by rcases h2.2 with h | h; exact absurd rfl h; exact h
    rw [lt_anti r t q1 q2]
theorem lt_trans' : ∀ a b c : List Nat, ltCps b a = false → ltCps c b = false → ltCps c a = false
  | [], _, [], _, _ => rfl
  | [], [], _ :: _, _, _ => rfl
  | [], _ :: _, _ :: _, _, _ => rfl
  | _ :: _, [], _, h, _ => by simp [ltCps] at h
  | _ :: _, _ :: _, [], _, h => by simp [ltCps] at h
  | a :: r, b :: t, c :: u, h1, h2 => by
    simp only [ltCps, Bool.or_eq_false_iff, decide_eq_false_iff_not, Bool.and_eq_false_iff, beq_eq_false_iff_ne] at h1 h2 ⊢
    refine ⟨by omega, ?_⟩
    by_cases e : c = a
    · right
      have e1 : b = a := by omega
      have e2 : c = b := by omega
      exact lt_trans' r t u (h1.2.resolve_left (fun z => z e1)) (h2.2.resolve_left (fun z => z e2))
    · exact .inl e
def sle (a b : Str) : Prop := ltCps b.cps.toList a.cps.toList = false
theorem rising_pw : ∀ (l : List Str) (p : Str), risingS p l = true → (p :: l).Pairwise sle
  | [], p, _ => by simp
  | x :: r, p, h => by
    simp only [risingS, Bool.and_eq_true, Bool.not_eq_true'] at h
    have ih := rising_pw r x h.2
    refine List.pairwise_cons.mpr ⟨fun y hy => ?_, ih⟩
    rcases List.mem_cons.mp hy with rfl | hy
    · exact h.1
    · exact lt_trans' _ _ _ h.1 ((List.pairwise_cons.mp ih).1 y hy)
theorem sorted_pw {l : List Str} (h : sortedS l = true) : l.Pairwise sle := by
  cases l with
  | nil => exact List.Pairwise.nil
  | cons x r => exact rising_pw r x h
theorem sorted_unique {l m ks : List Str} (h1 : l.Perm ks) (s1 : sortedS l = true) (h2 : m.Perm ks) (s2 : sortedS m = true) : l = m :=
  List.Perm.eq_of_pairwise (le := sle) (fun a b _ _ h k => str_ext (lt_anti _ _ k h)) (sorted_pw s1) (sorted_pw s2) (h1.trans h2.symm)
/-! ## dicts of data under texts -/
def kvD (kv : Str × PyData) : PyData × PyData := (.str kv.1, kv.2)
def kvA (kv : Str × PyData) : Key × AV := (.inr kv.1, .dat kv.2)
def Dk (S : Sto) (a : AV) (nm : List (Str × PyData)) : Prop := a = .dat (.dict (nm.map kvD)) ∨ ∃ q, a = .own q ∧ S q = some (.dct (nm.map kvA))
def getS : List (Str × PyData) → Str → Option PyData
  | [], _ => none
  | (x, d) :: r, n => if x = n then some d else getS r n
theorem getS_cons {x n : Str} {d : PyData} {r : List (Str × PyData)} : getS ((x, d) :: r) n = if x = n then some d else getS r n := rfl
theorem valA_kv {n : Str} : ∀ {nm : List (Str × PyData)}, valA (nm.map kvA) (.inr n) = (getS nm n).map AV.dat
  | [] => rfl
  | (x, d) :: nm => by
    rw [List.map_cons, valA_cons, valA_kv (nm := nm), getS_cons]
    by_cases h : x = n
    · rw [if_pos (show (kvA (x, d)).1 = Sum.inr n by subst h; rfl), if_pos h]; rfl
    · rw [if_neg (show ¬ (kvA (x, d)).1 = Sum.inr n from fun e => h (Sum.inr.inj e)), if_neg h]
theorem getS_some {n : Str} : ∀ {nm : List (Str × PyData)}, (getS nm n).isSome = decide (n ∈ nm.map (·.1))
  | [] => rfl
  | (x, d) :: nm => by
    rw [getS_cons]
    by_cases h : x = n
    · rw [if_pos h]; subst h; simp
    · rw [if_neg h, getS_some (nm := nm)]
      have : ¬ n = x := fun e => h e.symm
      simp [this]
theorem getS_app {n : Str} {m : List (Str × PyData)} : ∀ {nm : List (Str × PyData)}, getS (nm ++ m) n = (getS nm n).or (getS m n)
  | [] => by simp [getS]
  | (x, d) :: nm => by
    rw [List.cons_append, getS_cons, getS_cons]
    by_cases h : x = n
    · rw [if_pos h, if_pos h]; rfl
    · rw [if_neg h, if_neg h, getS_app (nm := nm)]
theorem getS_mem {n : Str} {d : PyData} : ∀ {nm : List (Str × PyData)}, getS nm n = some d → (n, d) ∈ nm
  | [], h => by simp [getS] at h
  | (x, e) :: nm, h => by
    rw [getS_cons] at h
    by_cases hx : x = n
    · rw [if_pos hx] at h; cases h; subst hx; exact List.mem_cons_self
    · rw [if_neg hx] at h; exact List.mem_cons_of_mem _ (getS_mem h)
section
variable {K : PySem.W.Frag} {S : Sto} {H : Hp} {v : V} {a : AV} {nm : List (Str × PyData)} {P : Po} {δ : Dl} {R : Rr} {td ty tx te : TE} {t : TS}
theorem ks_of : ∀ {nm : List (Str × PyData)} {vs : List (Key × V)} {ds : List (PyData × PyData)}, DqKs K (msk S H) vs ds → ds = nm.map kvD → RKs K S H vs (nm.map kvA)
  | [], _, _, h, e => by
    cases h with
    | nil => exact .nil
    | cons h1 h2 => cases e
  | (x, d) :: nm, _, _, h, e => by
    cases h with
    | nil => cases e
    | @cons k v d' vs ds h1 h2 =>
      rw [List.map_cons] at e
      injection e with e1 e2
      have e3 : kD k = .str x := congrArg Prod.fst e1
      have e4 : d' = d := congrArg Prod.snd e1
      subst e4
      cases k with
      | inl i => cases e3
      | inr y =>
        have e5 : y = x := by injection e3
        subst e5
        exact .cons h1 (ks_of h2 e2)
theorem Dk.at_ (h : Dk S a nm) (rs : RS K S H) (r : RA K S H v a) : ∃ q vs, v = .ref q ∧ H q = some (.dK vs) ∧ RKs K S H vs (nm.map kvA) := by
  rcases h with rfl | ⟨q, rfl, hq⟩
  · have r' : Dq K (msk S H) v (.dict (nm.map kvD)) := r
    cases r' with
    | dct h1 h2 => exact ⟨_, _, rfl, msk_ex _ _ h1, ks_of h2 rfl⟩
  · cases r
    obtain ⟨vs, q1, q2⟩ := rs q _ hq
    exact ⟨q, vs, rfl, q1, q2⟩
theorem Dk.valV {vs : List (Key × V)} {n : Str} (r : RKs K S H vs (nm.map kvA)) : (L2.valV vs (.inr n)).isSome = (getS nm n).isSome := by
  rw [r.valO, valA_kv, Option.isSome_map]
theorem we_dinD (h : Ov.WE K ty δ S fun b S1 => Ov.WE K td δ S1 fun a S2 => ∃ nm n, Dk S2 a nm ∧ b = .dat (.str n) ∧ P (.dat (.bool (getS nm n).isSome)) S2) : Ov.WE K (tDIn ty td) δ S P := fun σ H Q rs s kk =>
  h σ H _ rs s fun y H1 b S1 g1 r1 w => w σ H1 _ g1.rs (s.go g1) fun x H2 a S2 g2 r2 ⟨nm, n, e1, e2, p⟩ => by
    subst e2
    obtain ⟨q, vs, rfl, q1, q2⟩ := e1.at_ g2.rs r2
    have := ra_key (k := .inr n) (r1.go g2)
    subst this
    refine ⟨q, _, rfl, DGet.k q1, ?_⟩
    rw [Dk.valV q2]
    exact kk _ H2 (.dat (.bool _)) S2 (g1.trans g2) (Dq.bl _) p
theorem we_dnotinD (h : Ov.WE K ty δ S fun b S1 => Ov.WE K td δ S1 fun a S2 => ∃ nm n, Dk S2 a nm ∧ b = .dat (.str n) ∧ P (.dat (.bool (!(getS nm n).isSome))) S2) : Ov.WE K (tDNotIn ty td) δ S P := fun σ H Q rs s kk =>
  h σ H _ rs s fun y H1 b S1 g1 r1 w => w σ H1 _ g1.rs (s.go g1) fun x H2 a S2 g2 r2 ⟨nm, n, e1, e2, p⟩ => by
    subst e2
    obtain ⟨q, vs, rfl, q1, q2⟩ := e1.at_ g2.rs r2
    have := ra_key (k := .inr n) (r1.go g2)
    subst this
    refine ⟨q, _, rfl, DGet.k q1, ?_⟩
    rw [Dk.valV q2]
    exact kk _ H2 (.dat (.bool _)) S2 (g1.trans g2) (Dq.bl _) p
theorem we_dget2D (h : Ov.WE K td δ S fun a S1 => ∃ nm0, Dk S1 a nm0 ∧ Ov.WE K ty δ S1 fun b S2 => Ov.WE K tx δ S2 fun c S3 => ∃ nm n d, b = .dat (.str n) ∧ c = .dat d ∧ Dk S3 a nm ∧ P (.dat ((getS nm n).getD d)) S3) : Ov.WE K (tDGet2 td ty tx) δ S P := fun σ H Q rs s kk =>
  h σ H _ rs s fun x H1 a S1 g1 r1 ⟨nm0, e0, w⟩ => by
    obtain ⟨q, vs0, rfl, z0, _⟩ := e0.at_ g1.rs r1
    refine ⟨q, rfl, .inl ⟨vs0, .inl z0⟩, w σ H1 _ g1.rs (s.go g1) fun y H2 b S2 g2 r2 w2 => w2 σ H2 _ g2.rs ((s.go g1).go g2) fun z H3 c S3 g3 r3 ⟨nm, n, d, e2, e3, e4, p⟩ => ?_⟩
    subst e2 e3
    obtain ⟨q', vs, e5, q1, q2⟩ := e4.at_ g3.rs ((r1.go g2).go g3)
    cases e5
    have := ra_key (k := .inr n) (r2.go g3)
    subst this
    refine ⟨_, DGet.k q1, ?_⟩
    have g := (g1.trans g2).trans g3
    have ev := valA_kv (n := n) (nm := nm)
    cases hv : getS nm n with
    | some c' =>
      rw [hv] at ev p
      obtain ⟨v, v1, v2⟩ := q2.val ev
      rw [v1]
      exact kk v H3 (.dat c') S3 g v2 p
    | none =>
      have e := Dk.valV (n := n) q2
      rw [hv] at e p
      cases hz : L2.valV vs (.inr n) with
      | none => exact kk z H3 (.dat d) S3 g r3 p
      | some _ => rw [hz] at e; cases e
theorem wc_sortedDk (hq : Dk S a nm) (h64 : nm.length < 64) (p : ∀ ys : List Str, ys.Perm (nm.map (·.1)) → sortedS ys = true → P (.dat (.list (ys.map PyData.str))) S) : WC K rSortedD [a] S P := fun xs H Q rs ra k => by
  cases ra with
  | cons r1 r2 =>
    cases r2
    obtain ⟨q, vs, rfl, q1, q2⟩ := hq.at_ rs r1
    refine ⟨q, vs, nm.map (·.1), rfl, .inl q1, by rw [q2.keys, List.map_map, List.map_map]; rfl, by rw [List.length_map]; exact h64, fun ys b hp hs hb => ?_⟩
    exact fin_newL rs k (dq_strs ys) (p ys hp hs) hb
theorem wc_dictDk (hq : Dk S a nm) (p : ∀ q, S q = none → P (.own q) (S.set q (.dct (nm.map kvA)))) : WC K rDictD [a] S P := fun xs H Q rs ra k => by
  cases ra with
  | cons r1 r2 =>
    cases r2
    obtain ⟨q, vs, rfl, q1, q2⟩ := hq.at_ rs r1
    refine ⟨q, vs, rfl, .inl q1, fun b hb => ?_⟩
    have g0 : Go K S H (S.set b (.dct (nm.map kvA))) (upd H b (.dK vs)) := Go.own rs hb fun S' H' e z => ⟨vs, z, q2.up e⟩
    exact k _ _ (.own b) _ g0 rfl (p b (rs.none_of hb))
theorem ks_back (e : Ex (msk S H) (msk (S.del q) H)) : ∀ {nm : List (Str × PyData)} {vs : List (Key × V)}, RKs K S H vs (nm.map kvA) → DqKs K (msk (S.del q) H) vs (nm.map kvD)
  | [], _, h => by cases h; exact .nil
  | (x, d) :: nm, _, h => by
    rw [List.map_cons] at h
    generalize hl : kvA (x, d) = kv at h
    cases h with
    | @cons k v a vs as r t =>
      have e1 : k = Sum.inr x := by cases hl; rfl
      have e2 : a = AV.dat d := by cases hl; rfl
      subst e1 e2
      exact .cons (k := .inr x) (dp_up e r) (ks_back e t)
theorem ra_free_dict {q : Addr} (rs : RS K S H) (hq : S q = some (.dct (nm.map kvA))) : RA K (S.del q) H (.ref q) (.dat (.dict (nm.map kvD))) := by
  obtain ⟨vs, q1, q2⟩ := rs q _ hq
  have g := Go.free q rs
  refine Dq.dct (kvs := vs) ?_ (ks_back g.ex q2)
  unfold msk
  rw [Ov.del_same]
  exact q1
theorem WE.freeDk (h : Ov.WE K te δ S fun a S1 => ∃ (q : Addr) (nm : List (Str × PyData)), a = .own q ∧ S1 q = some (.dct (nm.map kvA)) ∧ P (.dat (.dict (nm.map kvD))) (S1.del q)) : Ov.WE K te δ S P := fun σ H Q rs s k =>
  h σ H _ rs s fun x H1 a S1 g1 r1 ⟨q, nm, e, hl, p⟩ => by
    subst e
    cases r1
    exact k _ _ (.dat (.dict (nm.map kvD))) _ (g1.trans (Go.free q g1.rs)) (ra_free_dict g1.rs hl) p
theorem ws_freezeD (i : Nat) {l : Addr} (e : δ[i]? = some (some (.own l))) (hl : S l = some (.dct (nm.map kvA))) (h : WS K t (δ.set i (some (.dat (.dict (nm.map kvD))))) (S.del l) R) : WS K t δ S R := fun σ H D rs s f => by
  have g := Go.free l rs
  obtain ⟨v, e1, r⟩ := s.2 i _ e
  have r' : v = .ref l := r
  subst r'
  have z := ((s.go g).set i (ra_free_dict rs hl))
  rw [show σ.set i (some (.ref l)) = σ from by
    obtain ⟨hi, e2⟩ := List.getElem?_eq_some_iff.mp e1
    rw [← e2]
    exact List.set_getElem_self hi] at z
  exact h σ H D g.rs z (f.go g)
end
/-! ## a method that may raise -/
theorem pass0X {X : Cx} : Passes (L2.CX X.prog X.w) X E0 := fun _ _ _ _ _ _ _ h => by
  obtain ⟨_, _, _, _, _, _, _, _, _, _, _, _, h⟩ := h
  exact h.elim
theorem pass0S {X : Cx} (σ : L2.St) : PassesAt (L2.CX X.prog X.w) X σ E0 := fun _ _ _ _ _ _ h => by
  obtain ⟨_, _, _, _, _, _, _, _, _, _, _, _, h⟩ := h
  exact h.elim
def tMethS (C : Addr) (m : Str) (sp : Sp) (E : L2.St → XK) (ta : TE) (t : TA) : TE := fun σ H Q => ta σ H fun x H1 => ∃ a dx fs, x = .ref a ∧ H1 a = some (.ins C dx fs) ∧ fs.lookup m = none ∧ t σ H1 fun vs H2 => sp (x :: vs) H2 Q (E σ)
section
variable {X : Cx} {CX : CXT} {k : Nat} {f C : Addr} {fd : FuncData} {ps : List Str} {sp : Sp} {E : L2.St → XK} {x m : Str} {p pos apos : Pos} {e o : Expr} {es : List Expr} {ta : TE} {t : TA}
theorem pe_methS {pl : Sem Bool} (he : PE X o ta) (c : Cls X.K C) (hm : Meth X.K C m f) (F : FnOk X.prog X.w X.K X.mg X.base CX k f fd ps sp) (hr : Room k X.A) (hb : Binds X.K fd ps []) (hx : ∀ σ, PassesAt CX X σ (E σ)) (ha : PA X (e :: es) t)
    (hst : starEach (e :: es) X.env = (false, eval e X.env) :: starEach es X.env := by rfl) (hpl : (backTo pos (starEach es X.env)).any (·.1) = false := by rfl)
    (ht : eval (.Call (.Attribute o m apos) (e :: es) [] pos) X.env = (do
      let ov ← eval o X.env
      standAt apos.atName
      let (f, first) ← holding [ov] (getMethod ov m pl)
      callWith pos f first (backTo pos (starEach (e :: es) X.env)) (backToKw pos (keywordEach [] X.env))) := by rfl) :
    PE X (.Call (.Attribute o m apos) (e :: es) [] pos) (tMethS C m sp E ta t) := by
  refine ⟨fun pins s σ H Q I h => ?_⟩
  refine PySem.W.methodCall_KW (pl := pl) (thn (he.run pins s σ H _ I h) fun u s1 ⟨x, H1, I1, rx, a, dx, fs, ex, ea, l, q⟩ => ?_) ht
  subst ex
  obtain rfl : u = Value.ref a := rx
  refine getmeth_ok I1 ea c hm l ?_
  refine PySem.W.callWith_K (first := [.ref a]) (h₀ := X.base) I.ok.mod.kin hm.kp (thn (ha.run pos pins s1 σ H1 _ I1 q) fun us s2 ⟨vs, H2, I2, r, q2⟩ => ⟨I2.kIn, ?_⟩) hst hpl
  exact run_fnS (us := .ref a :: us) (vs := .ref a :: vs) F hr hb (hx σ) I2 (.cons rfl r) q2
end
section
variable {K : PySem.W.Frag} {S : Sto} {H : Hp} {δ : Dl} {R : Rr} {P : Po} {C : Addr} {m : Str} {n : Nat} {spec : List AV → Sto → Po → Px → Prop} {ta : TE} {t : TA} {c : Value} {i : Nat} {ts : Addr → Value → Option Addr → TS} {Wout : WX}
theorem RFs.non {f : Str} : ∀ {fs : List (Str × V)} {as : List (Str × AV)}, RFs K S H fs as → fldA as f = none → fs.lookup f = none
  | _, _, .nil, _ => rfl
  | _, _, @RFs.cons _ _ _ k v a vs as r t, e => by
    unfold fldA at e
    rw [List.lookup_cons] at e ⊢
    cases h : f == k with
    | true => rw [h] at e; cases e
    | false => rw [h] at e; exact RFs.non t e
theorem we_methS (h : Ov.WE K ta δ S fun a S1 => ∃ q fs, a = .own q ∧ S1 q = some (.ins C fs) ∧ fldA fs m = none ∧ WA K t δ S1 fun as S2 => as.length + 1 = n ∧ spec (.own q :: as) S2 P fun _ _ _ => False) : Ov.WE K (tMethS C m (SpX K n spec) (fun _ => E0) ta t) δ S P := fun σ H Q rs s k =>
  h σ H _ rs s fun x H1 a S1 g1 r1 ⟨q, fs, e, hq, hf, w⟩ => by
    subst e
    cases r1
    obtain ⟨dx, gs, q1, q2⟩ := g1.rs q _ hq
    refine ⟨q, dx, gs, rfl, q1, q2.non hf, w σ H1 _ g1.rs (s.go g1) fun vs H2 as S2 g2 r2 ⟨hl, sp⟩ => ?_⟩
    exact ⟨by rw [List.length_cons, r2.len]; exact hl, _, S2, P, _, g2.rs, .cons (show RA K S2 H2 (.ref q) (.own q) from rfl) r2, sp, fun v H' a S' g' r p => k v H' a S' ((g1.trans g2).trans g') r p, fun _ _ _ _ _ _ _ _ _ z => z⟩
/-- try: o.m(..) except c as n: suite -/
theorem ws_tryMeth (h : Ov.WE K ta δ S fun a S1 => ∃ q fs, a = .own q ∧ S1 q = some (.ins C fs) ∧ fldA fs m = none ∧ WA K t δ S1 fun as S2 => as.length + 1 = n ∧ spec (.own q :: as) S2 (fun _ S3 => R.nx δ S3) fun C' fs S3 => PySem.W.exmOne K (.ref C') c = some true ∧ SuOk K ts i δ R C' fs S3) :
    WS K (fun D σ H => (fun W : WX => tDrop (tMethS C m (SpX K n spec) (fun σ cls d H => W cls d σ H) ta t)) (wAs K c i ts Wout D) D σ H) δ S R := fun σ H D rs s f =>
  h σ H _ rs s fun x H1 a S1 g1 r1 ⟨q, fs, e, hq, hf, w⟩ => by
    subst e
    cases r1
    obtain ⟨dx, gs, q1, q2⟩ := g1.rs q _ hq
    refine ⟨q, dx, gs, rfl, q1, q2.non hf, w σ H1 _ g1.rs (s.go g1) fun vs H2 as S2 g2 r2 ⟨hl, sp⟩ => ?_⟩
    have g0 := g1.trans g2
    refine ⟨by rw [List.length_cons, r2.len]; exact hl, _, S2, _, _, g2.rs, .cons (show RA K S2 H2 (.ref q) (.own q) from rfl) r2, sp, fun v H' a S' g' r p => f.nx σ H' δ S' (g0.trans g') (s.go (g0.trans g')) p, fun C' d gs fs H' S' g q rf p => ?_⟩
    obtain ⟨e1, su⟩ := p
    exact ⟨true, e1, fun _ a ha => su σ H' a d gs D g.rs (s.go (g0.trans g)) ha q rf (f.go (g0.trans g)), fun z => nomatch z⟩
/-- x = g(..) that may raise, in a def that raises -/
theorem wse_setC {E : XK} {PX : Px} {j : Nat} (h : WA K t δ S fun as S1 => as.length = n ∧ spec as S1 (fun v S2 => R.nx (δ.set j (some v)) S2) PX) : WSE K E PX (tAsg (tCallS (SpX K n spec) (fun _ => E) t) (gName j)) δ S R := fun σ H D rs s f e =>
  h σ H _ rs s fun vs H1 as S1 g r ⟨hl, sp⟩ => ⟨r.len.trans hl, as, S1, _, PX, g.rs, r, sp, fun v H' a S' g' r' p => f.nx _ H' _ S' (g.trans g') ((s.go (g.trans g')).set j r') p, e.go g⟩
end
end Ov
namespace Ov
open PySem PySem.Spec PyProof.Rows L2
/-! ## walks over what stays as it is while it is walked -/
def OWk (K : PySem.W.Frag) (S : Sto) (H : Hp) (J : It) (n : Nat) (f : Nat → AV) (St : Sto → Prop) : Prop := ∃ (G : Hp → Prop) (Y : Nat → Hp → V → Hp → Prop), Walk J n G Y ∧ (∀ S' H', Go K S H S' H' → St S' → G H') ∧
  ∀ i S' H' x H'', i < n → Go K S H S' H' → St S' → Y i H' x H'' → Go K S' H' S' H'' ∧ RA K S' H'' x (f i)
def WIO (K : PySem.W.Frag) (wi : TI) (δ : Dl) (S : Sto) (P : Nat → (Nat → AV) → (Sto → Prop) → Sto → Prop) : Prop := ∀ (σ : L2.St) (H : Hp) (R : It → Hp → Prop), RS K S H → Sl K S H σ δ → (∀ J H1 S1 n f St, Go K S H S1 H1 → OWk K S1 H1 J n f St → P n f St S1 → R J H1) → wi σ H R
section
variable {K : PySem.W.Frag} {S : Sto} {δ : Dl} {R : Rr} {t : TS} {g : TG} {wi : TI} {E : XK} {PX : Px} {te : TE} {tas : TA}
theorem wio_of (h : WW K wi δ S fun n f S1 => P n f (fun _ => True) S1) : WIO K wi δ S P := fun σ H Q rs s k =>
  h σ H Q rs s fun J H1 S1 n f g ⟨G, Y, w, hG, hY⟩ p => k J H1 S1 n f _ g ⟨G, Y, w, fun S' H' g' _ => hG S' H' g', fun i S' H' x H'' hi g' _ y => hY i S' H' x H'' hi g' y⟩ p
theorem wse_forO (h : WIO K wi δ S fun n f St S1 => ∃ I : Nat → Dl → Sto → Prop, I 0 δ S1 ∧ (∀ i δ' S', i ≤ n → I i δ' S' → St S') ∧
    (∀ i δ' S', i < n → I i δ' S' → WG K g (f i) δ' S' fun δ2 S2 => WSE K E PX t δ2 S2 { R with nx := I (i + 1), ct := I (i + 1), bk := R.nx }) ∧ ∀ δ' S', I n δ' S' → R.nx δ' S') : WSE K E PX (tFor wi g t) δ S R := fun σ H D rs s f e =>
  h σ H _ rs s fun J H1 S1 n fd St g1 ⟨G, Y, w, hG, hY⟩ ⟨I, h0, hst, hs, hd⟩ => by
    refine for_it w (fun i σ' H' => i ≤ n ∧ ∃ δ' S', Go K S1 H1 S' H' ∧ Sl K S' H' σ' δ' ∧ I i δ' S') ⟨Nat.zero_le _, δ, S1, Go.refl g1.rs, s.go g1, h0⟩ (fun i σ' H' _ ⟨hi, δ', S', g', _, p⟩ => hG S' H' g' (hst i δ' S' hi p)) ?_ ?_
    · rintro i x σ' H' H'' hi ⟨_, δ', S', g', s', p⟩ y
      obtain ⟨g2, q⟩ := hY i S' H' x H'' hi g' (hst i δ' S' (Nat.le_of_lt hi) p) y
      refine hs i δ' S' hi p x σ' H'' _ g2.rs (s'.go g2) q fun σ2 H2 δ2 S2 g3 s2 w2 => w2 σ2 H2 _ g3.rs s2 ?_ (((e.go g1).go ((g'.trans g2).trans g3)))
      have f2 := (f.go g1).go ((g'.trans g2).trans g3)
      exact ⟨fun σ3 H3 δ3 S3 g4 s3 q => ⟨hi, δ3, S3, ((g'.trans g2).trans g3).trans g4, s3, q⟩, f2.rt, f2.nx, fun σ3 H3 δ3 S3 g4 s3 q => ⟨hi, δ3, S3, ((g'.trans g2).trans g3).trans g4, s3, q⟩⟩
    · rintro σ' H' ⟨_, δ', S', g', s', p⟩
      exact f.nx σ' H' δ' S' (g1.trans g') s' (hd δ' S' p)
theorem ws_forO (h : WIO K wi δ S fun n f St S1 => ∃ I : Nat → Dl → Sto → Prop, I 0 δ S1 ∧ (∀ i δ' S', i ≤ n → I i δ' S' → St S') ∧
    (∀ i δ' S', i < n → I i δ' S' → WG K g (f i) δ' S' fun δ2 S2 => WS K t δ2 S2 { R with nx := I (i + 1), ct := I (i + 1), bk := R.nx }) ∧ ∀ δ' S', I n δ' S' → R.nx δ' S') : WS K (tFor wi g t) δ S R := fun σ H D rs s f =>
  h σ H _ rs s fun J H1 S1 n fd St g1 ⟨G, Y, w, hG, hY⟩ ⟨I, h0, hst, hs, hd⟩ => by
    refine for_it w (fun i σ' H' => i ≤ n ∧ ∃ δ' S', Go K S1 H1 S' H' ∧ Sl K S' H' σ' δ' ∧ I i δ' S') ⟨Nat.zero_le _, δ, S1, Go.refl g1.rs, s.go g1, h0⟩ (fun i σ' H' _ ⟨hi, δ', S', g', _, p⟩ => hG S' H' g' (hst i δ' S' hi p)) ?_ ?_
    · rintro i x σ' H' H'' hi ⟨_, δ', S', g', s', p⟩ y
      obtain ⟨g2, q⟩ := hY i S' H' x H'' hi g' (hst i δ' S' (Nat.le_of_lt hi) p) y
      refine hs i δ' S' hi p x σ' H'' _ g2.rs (s'.go g2) q fun σ2 H2 δ2 S2 g3 s2 w2 => w2 σ2 H2 _ g3.rs s2 ?_
      have f2 := (f.go g1).go ((g'.trans g2).trans g3)
      exact ⟨fun σ3 H3 δ3 S3 g4 s3 q => ⟨hi, δ3, S3, ((g'.trans g2).trans g3).trans g4, s3, q⟩, f2.rt, f2.nx, fun σ3 H3 δ3 S3 g4 s3 q => ⟨hi, δ3, S3, ((g'.trans g2).trans g3).trans g4, s3, q⟩⟩
    · rintro σ' H' ⟨_, δ', S', g', s', p⟩
      exact f.nx σ' H' δ' S' (g1.trans g') s' (hd δ' S' p)
theorem walk_enuS {p : Addr} {n : Nat} : Walk (Ite K p) n (fun H => ∃ xs, SqL K H p xs ∧ xs.length = n) (fun i H v H' => ∃ T x, v = .ref T ∧ H T = none ∧ H' = upd H T (.tup [.int (i : Nat), x]) ∧ ∀ xs, SqL K H p xs → xs[i]? = some x) :=
  ⟨fun i H hi ⟨xs, q, e⟩ => ⟨xs, xs[i]'(by omega), q, by simp [show i < xs.length by omega]⟩, fun H ⟨xs, q, e⟩ => ⟨xs, q, by omega⟩, fun _ _ _ _ _ _ y => y⟩
theorem OWk.weak {H : Hp} {J : It} {n : Nat} {f : Nat → AV} {St : Sto → Prop} (h : OWk K S H J n f fun _ => True) : OWk K S H J n f St :=
  let ⟨G, Y, w, hG, hY⟩ := h
  ⟨G, Y, w, fun S' H' g _ => hG S' H' g trivial, fun i S' H' x H'' hi g _ y => hY i S' H' x H'' hi g trivial y⟩
theorem owk_of {H : Hp} {J : It} {n : Nat} {f : Nat → PyData} {St : Sto → Prop} (h : DWalk K S H J n f) : OWk K S H J n (fun i => .dat (f i)) St :=
  let ⟨G, Y, w, hG, hY⟩ := h
  ⟨G, Y, w, fun S' H' g _ => hG S' H' g, fun i S' H' x H'' hi g _ y => hY i S' H' x H'' hi g y⟩
/-- enumerate(xs): data in a list, in a tuple, or in an own list that stays -/
theorem wio_enumS {P : Nat → (Nat → AV) → (Sto → Prop) → Sto → Prop} {a : AV} {ds : List PyData} (q : SeqIn S a ds) (h : ∀ Q : List AV → Sto → Prop, Q [a] S → WA K tas δ S Q) (p : P ds.length (fun i => .dat (.tuple [.int i, ds.getD i .none])) (fun S' => SeqIn S' a ds) S) : WIO K (iEnumA K tas) δ S P := by
  rcases q with (rfl | rfl) | ⟨q, rfl, hq⟩
  · intro σ H Q rs s k
    exact wi_enuL (P := fun n f S' => n = ds.length ∧ f = (fun i : Nat => PyData.tuple [.int i, ds.getD i .none]) ∧ S' = S) (h _ ⟨ds, rfl, rfl, rfl, rfl⟩) σ H Q rs s fun J H1 S1 n f g w ⟨e1, e2, e3⟩ => by
      subst e1 e2 e3
      exact k J H1 _ _ _ _ g (owk_of w) p
  · intro σ H Q rs s k
    exact wi_enuT (P := fun n f S' => n = ds.length ∧ f = (fun i : Nat => PyData.tuple [.int i, ds.getD i .none]) ∧ S' = S) (h _ ⟨ds, rfl, rfl, rfl, rfl⟩) σ H Q rs s fun J H1 S1 n f g w ⟨e1, e2, e3⟩ => by
      subst e1 e2 e3
      exact k J H1 _ _ _ _ g (owk_of w) p
  · intro σ H Q rs s k
    refine .inl (h (fun as S1 => as = [AV.own q] ∧ S1 = S) ⟨rfl, rfl⟩ σ H _ rs s fun vs H1 as S1 g1 r1 ⟨e1, e2⟩ => ?_)
    subst e1 e2
    cases r1 with
    | cons ra r2 =>
      cases r2
      cases ra
      obtain ⟨xs0, q1, q2⟩ := g1.rs q _ hq
      have own_at : ∀ {S' : Sto} {H' : Hp}, RS K S' H' → SeqIn S' (.own q) ds → ∃ xs, H' q = some (.lst xs) ∧ RAs K S' H' xs (dats ds) := fun {S' H'} rs' st => by
        rcases st with (st | st) | ⟨q', e, st⟩
        · cases st
        · cases st
        · cases e; exact rs' q _ st
      refine ⟨q, xs0, rfl, SqL.of q1, k _ H1 S1 ds.length _ _ g1 ⟨_, _, walk_enuS (n := ds.length), fun S' H' g' st => ?_, fun i S' H' x H'' hi g' st y => ?_⟩ p⟩
      · obtain ⟨xs, z1, z2⟩ := own_at g'.rs st
        exact ⟨xs, SqL.of z1, by rw [z2.len]; simp [dats]⟩
      · obtain ⟨xs, z1, z2⟩ := own_at g'.rs st
        obtain ⟨T, x', e1, e2, e3, e4⟩ := y
        subst e1 e3
        have gn := Go.new (o := .tup [.int (i : Nat), x']) g'.rs e2
        refine ⟨gn, ?_⟩
        have ex := e4 xs (SqL.of z1)
        have zd : Dq K (msk S' H') x' (ds.getD i .none) := get_dat z2.to_dp ex
        exact Dq.tup (SqT.of (msk_new g'.rs e2)) (.cons (Dq.int _) (.cons (dp_up gn.ex zd) .nil))
end
/-! ## lists searched -/
theorem find_step {α : Type} {p : α → Bool} {l : List α} {i : Nat} {n : α} (h : ∀ m ∈ l.take i, p m = false) (e : l[i]? = some n) : (p n = true → l.find? p = some n) ∧ (p n = false → ∀ m ∈ l.take (i + 1), p m = false) := by
  have hi : i < l.length := (List.getElem?_eq_some_iff.mp e).1
  have en : l[i] = n := (List.getElem?_eq_some_iff.mp e).2
  refine ⟨fun hp => ?_, fun hp m hm => ?_⟩
  · rw [← List.take_append_drop i l, List.find?_append, List.find?_eq_none.mpr (fun x hx => by rw [h x hx]; decide), List.drop_eq_getElem_cons hi, List.find?_cons, en, hp]
    rfl
  · rw [List.take_add_one, e] at hm
    rcases List.mem_append.mp hm with hm | hm
    · exact h m hm
    · simp at hm; subst hm; exact hp
theorem find_all {α : Type} {p : α → Bool} {l : List α} (h : ∀ m ∈ l.take l.length, p m = false) : l.find? p = none := by
  rw [List.take_length] at h
  exact List.find?_eq_none.mpr fun x hx => by rw [h x hx]; decide
def Grow (S S' : Sto) : Prop := ∀ a o, S a = some o → S' a = some o
theorem Grow.set {S S' : Sto} {q : Addr} {o : AO} (h : Grow S S') (hq : S q = none) : Grow S (S'.set q o) := fun a o' e => by
  have hne : a ≠ q := fun z => by rw [z, hq] at e; cases e
  rw [set_ne hne]
  exact h a o' e
theorem Grow.refl (S : Sto) : Grow S S := fun _ _ h => h
theorem Grow.trans {S S1 S2 : Sto} (x : Grow S S1) (y : Grow S1 S2) : Grow S S2 := fun a o e => y a o (x a o e)
theorem SeqIn.new {S : Sto} {a : AV} {ds : List PyData} {q : Addr} {o : AO} (h : SeqIn S a ds) (hq : S q = none) : SeqIn (S.set q o) a ds := by
  rcases h with h | ⟨p, rfl, hp⟩
  · exact .inl h
  · exact .inr ⟨p, rfl, by rw [set_ne (fun e => by rw [e, hq] at hp; cases hp)]; exact hp⟩
theorem Dk.new {S : Sto} {a : AV} {nm : List (Str × PyData)} {q : Addr} {o : AO} (h : Dk S a nm) (hq : S q = none) : Dk (S.set q o) a nm := by
  rcases h with h | ⟨p, rfl, hp⟩
  · exact .inl h
  · exact .inr ⟨p, rfl, by rw [set_ne (fun e => by rw [e, hq] at hp; cases hp)]; exact hp⟩
theorem SeqIn.nwl {S : Sto} {a : AV} {ds : List PyData} (h : SeqIn S a ds) : Nw S a (.list ds) ∨ Nw S a (.tuple ds) := by
  rcases h with (rfl | rfl) | ⟨p, rfl, hp⟩
  · exact .inl rfl
  · exact .inr rfl
  · exact .inl ⟨ds, hp, rfl⟩
theorem putA_new {kvs : List (Key × AV)} {k : Key} {v : AV} (h : valA kvs k = none) : putA kvs k v = kvs ++ [(k, v)] := by
  unfold putA
  rw [valA_none h]
  rfl
theorem put_kv {nm : List (Str × PyData)} {n : Str} {d : PyData} (h : getS nm n = none) : putA (nm.map kvA) (.inr n) (.dat d) = (nm ++ [(n, d)]).map kvA := by
  rw [putA_new (by rw [valA_kv, h]; rfl), List.map_append]
  rfl
theorem getS_none {nm : List (Str × PyData)} {n : Str} (h : n ∉ nm.map (·.1)) : getS nm n = none := by
  have e := getS_some (nm := nm) (n := n)
  rw [decide_eq_false h] at e
  cases hg : getS nm n with
  | none => rfl
  | some d => rw [hg] at e; cases e
theorem lt_asym : ∀ a b : List Nat, ltCps a b = true → ltCps b a = false
  | [], [], h => by simp [ltCps] at h
  | [], _ :: _, _ => rfl
  | _ :: _, [], h => by simp [ltCps] at h
  | a :: r, b :: t, h => by
    simp only [ltCps, Bool.or_eq_true, decide_eq_true_eq, Bool.and_eq_true, beq_iff_eq] at h
    simp only [ltCps, Bool.or_eq_false_iff, decide_eq_false_iff_not, Bool.and_eq_false_iff, beq_eq_false_iff_ne]
    rcases h with h | ⟨h1, h2⟩
    · exact ⟨by omega, .inl (by omega)⟩
    · exact ⟨by omega, .inr (lt_asym r t h2)⟩
def leS (a b : Str) : Bool := !ltCps b.cps.toList a.cps.toList
def srt (l : List Str) : List Str := l.mergeSort leS
theorem srt_perm (l : List Str) : (srt l).Perm l := List.mergeSort_perm l leS
theorem srt_sorted (l : List Str) : sortedS (srt l) = true := by
  refine sortedS_of_pairwise _ ?_
  have h := List.pairwise_mergeSort (le := leS) (fun a b c h1 h2 => ?_) (fun a b => ?_) l
  · exact h.imp fun z => by simpa [leS] using z
  · simp only [leS, Bool.not_eq_true'] at h1 h2 ⊢
    exact lt_trans' _ _ _ h1 h2
  · simp only [leS, Bool.or_eq_true, Bool.not_eq_true']
    cases h : ltCps b.cps.toList a.cps.toList with
    | false => exact .inl rfl
    | true => exact .inr (lt_asym _ _ h)
theorem srt_eq {l ks : List Str} (h1 : l.Perm ks) (s1 : sortedS l = true) : l = srt ks := sorted_unique h1 s1 (srt_perm ks) (srt_sorted ks)
/-! ## a call, bound -/
def posL (l : List Pm) (ds : List PyData) : List (Str × PyData) := (l.zip ds).map fun x => (x.1.n, x.2)
def givenW (w : Nat) (l : List Pm) (ds : List PyData) (nm : List (Str × PyData)) : Option (Str × PyData) :=
  if decide (ds.length > w) = true then some ("many", .none) else
  match (srt (nm.map (·.1))).find? (fun n => !decide (n ∈ l.map (·.n))) with
  | some n => some ("unknown", .str n)
  | none => match ((l.map (·.n)).take ds.length).find? (fun n => (getS nm n).isSome) with
    | some n => some ("twice", .str n)
    | none => none
def lackP (gv : List (Str × PyData)) (p : Pm) : Bool := !(getS gv p.n).isSome && isNone p.v
def valP (gv : List (Str × PyData)) (p : Pm) : PyData := (getS gv p.n).getD p.v
def bindW (w : Nat) (l : List Pm) (ds : List PyData) (nm : List (Str × PyData)) : Option (Str × PyData) :=
  match givenW w l ds nm with
  | some x => some x
  | none => match l.find? (lackP (nm ++ posL l ds)) with
    | some p => some ("missing", .str p.n)
    | none => match l.find? (fun p => !hasSortD (valP (nm ++ posL l ds) p) p.s) with
      | some p => some ("sort", .str p.n)
      | none => none
def callL (l : List Pm) (gv : List (Str × PyData)) : List (Str × PyData) := l.map fun p => (p.n, valP gv p)
def badF (z : Str) (d : PyData) : List (Str × AV) := [("name", .dat d), ("word", .dat (.str z))]
structure BArg (S : Sto) (a b : AV) (ds : List PyData) (nm : List (Str × PyData)) : Prop where
  sq : SeqIn S a ds
  dk : Dk S b nm
  nd : (nm.map (·.1)).Nodup
  ln : nm.length < 60
  ld : ds.length < 100
  sd : ∀ d ∈ ds, shortD d
  sn : ∀ kv ∈ nm, shortD kv.2
def spGiven (C CI : Addr) : List AV → Sto → Po → Px → Prop := fun as S P PX => ∃ (q : Addr) (name kind gives : Str) (ps qs : List Pm) (a b : AV) (ds : List PyData) (nm : List (Str × PyData)), as = [.own q, a, b] ∧ HookOk kind ps qs gives ∧ S q = some (.ins C (hookF name kind gives ps qs)) ∧ BArg S a b ds nm ∧
  match givenW ps.length (ps ++ qs) ds nm with
    | none => ∀ g, S g = none → P (.own g) (S.set g (.dct ((nm ++ posL (ps ++ qs) ds).map kvA)))
    | some (z, d) => ∀ S', Grow S S' → PX CI (badF z d) S'
def spBind (C CI : Addr) : List AV → Sto → Po → Px → Prop := fun as S P PX => ∃ (q : Addr) (name kind gives : Str) (ps qs : List Pm) (a b : AV) (ds : List PyData) (nm : List (Str × PyData)), as = [.own q, a, b] ∧ HookOk kind ps qs gives ∧ S q = some (.ins C (hookF name kind gives ps qs)) ∧ BArg S a b ds nm ∧
  match bindW ps.length (ps ++ qs) ds nm with
    | none => ∀ r S', Grow S S' → S r = none → S' r = some (.dct ((callL (ps ++ qs) (nm ++ posL (ps ++ qs) ds)).map kvA)) → P (.own r) S'
    | some (z, d) => ∀ S', Grow S S' → PX CI (badF z d) S'
theorem posL_cons {p : Pm} {l : List Pm} {d : PyData} {ds : List PyData} : posL (p :: l) (d :: ds) = (p.n, d) :: posL l ds := rfl
theorem posL_snoc : ∀ {l : List Pm} {ds : List PyData} {i : Nat} {p : Pm} {d : PyData}, l[i]? = some p → ds[i]? = some d → posL l (ds.take (i + 1)) = posL l (ds.take i) ++ [(p.n, d)]
  | [], _, _, _, _, h, _ => by simp at h
  | _ :: _, [], _, _, _, _, h => by simp at h
  | p0 :: l, d0 :: ds, 0, p, d, h, k => by
    simp at h k
    subst h k
    cases ds <;> simp [posL]
  | p0 :: l, d0 :: ds, i + 1, p, d, h, k => by
    rw [List.take_succ_cons, List.take_succ_cons, posL_cons, posL_cons, posL_snoc (l := l) (ds := ds) (i := i) (by simpa using h) (by simpa using k)]
    rfl
theorem posL_keys {l : List Pm} {ds : List PyData} (h : ds.length ≤ l.length) : (posL l ds).map (·.1) = (l.map (·.n)).take ds.length := by
  induction l generalizing ds with
  | nil => cases ds <;> simp [posL] at h ⊢
  | cons p l ih =>
    cases ds with
    | nil => simp [posL]
    | cons d ds =>
      rw [posL_cons, List.map_cons, List.map_cons, List.length_cons, List.take_succ_cons, ih (by simpa using h)]
/-- what a name has among the values passed by position -/
theorem posL_get : ∀ {l : List Pm} {ds : List PyData} {i : Nat} {p : Pm}, (l.map (·.n)).Nodup → l[i]? = some p → getS (posL l ds) p.n = ds[i]?
  | [], _, _, _, _, h => by simp at h
  | p0 :: l, [], i, p, _, _ => by simp [posL, getS]
  | p0 :: l, d0 :: ds, 0, p, _, h => by
    simp at h
    subst h
    rw [posL_cons, getS_cons, if_pos rfl]
    rfl
  | p0 :: l, d0 :: ds, i + 1, p, hn, h => by
    rw [List.map_cons, List.nodup_cons] at hn
    have h' : l[i]? = some p := by simpa using h
    have hne : p0.n ≠ p.n := fun e => hn.1 (e ▸ List.mem_map_of_mem (List.mem_of_getElem? h'))
    rw [posL_cons, getS_cons, if_neg hne, posL_get hn.2 h']
    simp
theorem callL_keys (l : List Pm) (gv : List (Str × PyData)) : (callL l gv).map (·.1) = l.map (·.n) := by
  unfold callL
  rw [List.map_map]
  rfl
theorem callL_get {gv : List (Str × PyData)} : ∀ {l : List Pm} {p : Pm}, (l.map (·.n)).Nodup → p ∈ l → getS (callL l gv) p.n = some (valP gv p)
  | [], _, _, h => by simp at h
  | p0 :: l, p, hn, h => by
    rw [List.map_cons, List.nodup_cons] at hn
    show getS ((p0.n, valP gv p0) :: callL l gv) p.n = _
    rw [getS_cons]
    rcases List.mem_cons.mp h with rfl | h
    · rw [if_pos rfl]
    · have hne : ¬ p0.n = p.n := fun e => hn.1 (e ▸ List.mem_map_of_mem h)
      rw [if_neg hne, callL_get hn.2 h]
theorem val_short {kind outs : Str} {ps qs : List Pm} {S : Sto} {a b : AV} {ds : List PyData} {nm : List (Str × PyData)} (hg : HookOk kind ps qs outs) (hb : BArg S a b ds nm) {p : Pm} (hp : p ∈ ps ++ qs) : shortD (valP (nm ++ posL (ps ++ qs) ds) p) := by
  unfold valP
  cases h : getS (nm ++ posL (ps ++ qs) ds) p.n with
  | some d =>
    rcases List.mem_append.mp (getS_mem h) with h | h
    · exact hb.sn _ h
    · obtain ⟨x, hx, e⟩ := List.mem_map.mp h
      have e2 : x.2 = d := congrArg Prod.snd e
      have z := hb.sd _ (List.of_mem_zip (a := x.1) (b := x.2) hx).2
      rw [e2] at z
      exact z
  | none =>
    rcases hg.vl p hp with h | h
    · show shortD p.v
      rw [h]; trivial
    · rcases h with ⟨_, w, e, hw⟩ | ⟨_, k, e, _⟩
      · show shortD p.v
        rw [e]; exact Nat.le_trans hw.2.1 (by decide)
      · show shortD p.v
        rw [e]; trivial
theorem callL_snoc {l : List Pm} {gv : List (Str × PyData)} {i : Nat} {p : Pm} (h : l[i]? = some p) : callL (l.take (i + 1)) gv = callL (l.take i) gv ++ [(p.n, valP gv p)] := by
  unfold callL
  rw [List.take_add_one, h, List.map_append]
  rfl
end Ov
namespace Ov
open PySem PySem.Spec PyProof.Rows L2
/-! ## values that are passed, odd ones too -/
def oddB : List PyData := [.none, .bool true, .bool false, .str "Red", .str "", .str "abcdefghi", .str "red", .int 3, .int (-1000000), .tuple [], .tuple [.int 1], .str "a b", .str "size", .list [.int 1], .dict [(.str "a", .int 1)], .str "sizesize", .str "if", .str "inner"]
structure VG (d : PyData) : Prop where
  nm : NmOk d
  sd : shortD d
  dep : d.depth ≤ 5
  shw : d.showable = true
  len : d.shown.length ≤ 98
theorem vg_odd {d : PyData} (h : d ∈ oddB) : VG d := by
  simp only [oddB, List.mem_cons, List.not_mem_nil, or_false] at h
  rcases h with rfl | rfl | rfl | rfl | rfl | rfl | rfl | rfl | rfl | rfl | rfl | rfl | rfl | rfl | rfl | rfl | rfl | rfl <;>
    exact ⟨by first | trivial | exact ⟨by decide +kernel, by decide +kernel⟩, by first | trivial | (show (_ : Nat) ≤ _; decide +kernel), by decide +kernel, by decide +kernel, by decide +kernel⟩
theorem vg_name {z : Str} (h : NameOk z) : VG (.str z) := by
  have h1 := len_repr (lower_ok h.2.2) h.2.1
  exact ⟨nm_name h, Nat.le_trans h.2.1 (by decide), by simp [PyData.depth], by simp [PyData.showable], by simp only [PyData.shown]; omega⟩
theorem vg_int {i : Int} (h1 : -1000000 ≤ i) (h2 : i ≤ 1000000) : VG (.int i) := by
  obtain ⟨a, b, c⟩ := shown_le (.int i) (by simp [fit]; omega)
  simp only [cst] at a
  exact ⟨trivial, trivial, by simp [PyData.depth], b, by omega⟩
theorem vg_val {s : Str} {v : PyData} (h : valOk s v) : VG v := by
  rcases h with ⟨_, w, rfl, hw⟩ | ⟨_, i, rfl, h1, h2⟩
  · exact vg_name hw
  · exact vg_int (by omega) (by omega)
/-! keys -/
def KOk (x : Str) : Prop := PyData.strOk x = true ∧ x.length ≤ 8
theorem NameOk.k {x : Str} (h : NameOk x) : KOk x := ⟨lower_ok h.2.2, h.2.1⟩
/-- d[n] = x -/
def putS (nm : List (Str × PyData)) (n : Str) (d : PyData) : List (Str × PyData) := if n ∈ nm.map (·.1) then nm.map (fun kv => if kv.1 = n then (kv.1, d) else kv) else nm ++ [(n, d)]
theorem putA_kv {nm : List (Str × PyData)} {n : Str} {d : PyData} : putA (nm.map kvA) (.inr n) (.dat d) = (putS nm n d).map kvA := by
  unfold putS
  by_cases h : n ∈ nm.map (·.1)
  · rw [if_pos h]
    unfold putA
    have e : ((nm.map kvA).any fun kv => decide (kv.1 = Sum.inr n)) = true := by
      rw [List.any_map, List.any_eq_true]
      obtain ⟨kv, h1, h2⟩ := List.mem_map.mp h
      exact ⟨kv, h1, by show decide ((Sum.inr kv.1 : Key) = Sum.inr n) = true; rw [h2]; simp⟩
    rw [if_pos e, List.map_map, List.map_map]
    refine List.map_congr_left fun kv _ => ?_
    show (if (kvA kv).1 = Sum.inr n then ((kvA kv).1, AV.dat d) else kvA kv) = kvA (if kv.1 = n then (kv.1, d) else kv)
    by_cases hk : kv.1 = n
    · rw [if_pos (show (kvA kv).1 = Sum.inr n from congrArg Sum.inr hk), if_pos hk]; rfl
    · rw [if_neg (show ¬ (kvA kv).1 = Sum.inr n from fun e => hk (Sum.inr.inj e)), if_neg hk]
  · rw [if_neg h]
    exact put_kv (getS_none h)
theorem putS_keys {nm : List (Str × PyData)} {n : Str} {d : PyData} : (putS nm n d).map (·.1) = if n ∈ nm.map (·.1) then nm.map (·.1) else nm.map (·.1) ++ [n] := by
  unfold putS
  by_cases h : n ∈ nm.map (·.1)
  · rw [if_pos h, if_pos h, List.map_map]
    refine List.map_congr_left fun kv _ => ?_
    show (if kv.1 = n then (kv.1, d) else kv).1 = kv.1
    split <;> rfl
  · rw [if_neg h, if_neg h, List.map_append]
    rfl
theorem putS_nodup {nm : List (Str × PyData)} {n : Str} {d : PyData} (h : (nm.map (·.1)).Nodup) : ((putS nm n d).map (·.1)).Nodup := by
  rw [putS_keys]
  by_cases hn : n ∈ nm.map (·.1)
  · rw [if_pos hn]; exact h
  · rw [if_neg hn]
    exact List.nodup_append.mpr ⟨h, by simp, fun a ha b hb e => by simp at hb; subst hb; exact hn (e ▸ ha)⟩
theorem putS_len {nm : List (Str × PyData)} {n : Str} {d : PyData} : (putS nm n d).length ≤ nm.length + 1 := by
  unfold putS
  split
  · rw [List.length_map]; omega
  · simp
theorem putS_mem {nm : List (Str × PyData)} {n : Str} {d : PyData} {kv : Str × PyData} (h : kv ∈ putS nm n d) : kv ∈ nm ∨ kv = (n, d) := by
  unfold putS at h
  split at h
  · obtain ⟨x, hx, e⟩ := List.mem_map.mp h
    by_cases hk : x.1 = n
    · rw [if_pos hk] at e
      right
      rw [← e, hk]
    · rw [if_neg hk] at e
      left
      rw [← e]; exact hx
  · rcases List.mem_append.mp h with h | h
    · exact .inl h
    · right; simpa using h
/-- what is passed by name -/
structure NmdOk (nm : List (Str × PyData)) (N : Nat) : Prop where
  nd : (nm.map (·.1)).Nodup
  ln : nm.length ≤ N
  ok : ∀ kv ∈ nm, KOk kv.1 ∧ VG kv.2
theorem NmdOk.nil : NmdOk [] 0 := ⟨by simp, by simp, fun _ h => by simp at h⟩
theorem NmdOk.put {nm : List (Str × PyData)} {N : Nat} {n : Str} {d : PyData} (h : NmdOk nm N) (hn : KOk n) (hd : VG d) : NmdOk (putS nm n d) (N + 1) :=
  ⟨putS_nodup h.nd, Nat.le_trans putS_len (Nat.succ_le_succ h.ln), fun kv hk => by
    rcases putS_mem hk with hk | rfl
    · exact h.ok kv hk
    · exact ⟨hn, hd⟩⟩
theorem NmdOk.up {nm : List (Str × PyData)} {N M : Nat} (h : NmdOk nm N) (hm : N ≤ M) : NmdOk nm M := ⟨h.nd, Nat.le_trans h.ln hm, h.ok⟩
/-! how long their text is -/
theorem len_dict (ps : List Str) : (dictText ps).length ≤ (ps.map (·.length)).sum + 2 * ps.length + 2 := by
  have h := join_len ", " ps
  unfold dictText
  rw [slen, slen]
  have e1 : (Str.ofString "{").length = 1 := by decide +kernel
  have e2 : (Str.ofString "}").length = 1 := by decide +kernel
  have e3 : (Str.ofString ", ").length = 2 := by decide +kernel
  rw [e1, e2]
  rw [e3] at h
  omega
theorem shown_kv : ∀ {nm : List (Str × PyData)}, (∀ kv ∈ nm, KOk kv.1 ∧ VG kv.2) → ((PyData.shownKv (nm.map kvD)).map (·.length)).sum ≤ 200 * nm.length ∧ (PyData.shownKv (nm.map kvD)).length = nm.length ∧ PyData.showableKv (nm.map kvD) = true ∧ PyData.depthKv (nm.map kvD) ≤ 5
  | [], _ => ⟨by simp [PyData.shownKv], by simp [PyData.shownKv], by simp [PyData.showableKv], by simp [PyData.depthKv]⟩
  | (x, d) :: nm, h => by
    obtain ⟨h1, h2, h3, h4⟩ := shown_kv (nm := nm) fun kv hk => h kv (List.mem_cons_of_mem _ hk)
    obtain ⟨kx, vd⟩ := h (x, d) List.mem_cons_self
    have l1 := len_repr kx.1 kx.2
    have l2 := vd.len
    have e2 : (Str.ofString ": ").length = 2 := by decide +kernel
    simp only [List.map_cons, kvD, PyData.shownKv, PyData.showableKv, PyData.depthKv, List.sum_cons, List.length_cons, PyData.shown, PyData.showable, PyData.depth, slen, e2] at *
    have l3 := vd.dep
    exact ⟨by omega, by omega, by simp [vd.shw, h3], by omega⟩
theorem shown_vals : ∀ {ds : List PyData}, (∀ d ∈ ds, VG d) → piled (PyData.shownAll ds) ≤ 100 * ds.length ∧ PyData.showableAll ds = true ∧ PyData.depthAll ds ≤ 5
  | [], _ => ⟨by simp [PyData.shownAll, piled], by simp [PyData.showableAll], by simp [PyData.depthAll]⟩
  | d :: ds, h => by
    obtain ⟨h1, h2, h3⟩ := shown_vals (ds := ds) fun e he => h e (List.mem_cons_of_mem _ he)
    have vd := h d List.mem_cons_self
    have l2 := vd.len
    have l3 := vd.dep
    simp only [PyData.shownAll, PyData.showableAll, PyData.depthAll, piled_cons, List.length_cons]
    exact ⟨by omega, by simp [vd.shw, h2], by omega⟩
theorem shown_passed {ds : List PyData} {nm : List (Str × PyData)} (h1 : ∀ d ∈ ds, VG d) (h2 : ∀ kv ∈ nm, KOk kv.1 ∧ VG kv.2) (l1 : ds.length ≤ 100) (l2 : nm.length ≤ 100) :
    (PyData.list [.list ds, .dict (nm.map kvD)]).showable = true ∧ (PyData.list [.list ds, .dict (nm.map kvD)]).depth ≤ 60 ∧ (PyData.list [.list ds, .dict (nm.map kvD)]).shown.length ≤ 10000000 := by
  obtain ⟨a1, a2, a3⟩ := shown_vals h1
  obtain ⟨b1, b2, b3, b4⟩ := shown_kv h2
  refine ⟨by simp [PyData.showable, PyData.showableAll, a2, b3], ?_, ?_⟩
  · simp only [PyData.depth, PyData.depthAll]
    omega
  · simp only [PyData.shown, PyData.shownAll]
    have c1 := len_list (PyData.shownAll ds)
    have c2 := len_dict (PyData.shownKv (nm.map kvD))
    have c3 := len_list [listText (PyData.shownAll ds), dictText (PyData.shownKv (nm.map kvD))]
    simp only [piled_cons] at c3
    have : piled [] = 0 := rfl
    omega
/-! ## what is said of a call -/
def saidD : Option (Str × PyData) → PyData
  | none => .none
  | some (z, d) => .tuple [.str z, d]
def bwords : List Str := ["many", "unknown", "twice", "missing", "sort"]
theorem bword_ok {z : Str} (h : z ∈ bwords) : KOk z := by
  simp only [bwords, List.mem_cons, List.not_mem_nil, or_false] at h
  rcases h with rfl | rfl | rfl | rfl | rfl <;> exact ⟨by decide +kernel, by decide +kernel⟩
theorem given_word {w : Nat} {l : List Pm} {ds : List PyData} {nm : List (Str × PyData)} {z : Str} {d : PyData} (h : givenW w l ds nm = some (z, d)) : z ∈ bwords ∧ (d = .none ∨ ∃ n, d = .str n ∧ (n ∈ nm.map (·.1) ∨ n ∈ l.map (·.n))) := by
  unfold givenW at h
  split at h
  · cases h; exact ⟨by simp [bwords], .inl rfl⟩
  split at h
  · next n e =>
    cases h
    refine ⟨by simp [bwords], .inr ⟨n, rfl, .inl ?_⟩⟩
    exact (srt_perm _).mem_iff.mp (List.mem_of_find?_eq_some e)
  split at h
  · next n e =>
    cases h
    exact ⟨by simp [bwords], .inr ⟨n, rfl, .inr (List.mem_of_mem_take (List.mem_of_find?_eq_some e))⟩⟩
  · cases h
theorem bind_word {w : Nat} {l : List Pm} {ds : List PyData} {nm : List (Str × PyData)} {z : Str} {d : PyData} (h : bindW w l ds nm = some (z, d)) : z ∈ bwords ∧ (d = .none ∨ ∃ n, d = .str n ∧ (n ∈ nm.map (·.1) ∨ n ∈ l.map (·.n))) := by
  unfold bindW at h
  split at h
  · next x e => cases h; exact given_word e
  split at h
  · next p e =>
    cases h
    exact ⟨by simp [bwords], .inr ⟨p.n, rfl, .inr (List.mem_map_of_mem (List.mem_of_find?_eq_some e))⟩⟩
  split at h
  · next p e =>
    cases h
    exact ⟨by simp [bwords], .inr ⟨p.n, rfl, .inr (List.mem_map_of_mem (List.mem_of_find?_eq_some e))⟩⟩
  · cases h
theorem said_shown {z : Str} {d : PyData} (hz : KOk z) (hd : d = .none ∨ ∃ n, d = .str n ∧ KOk n) : (PyData.tuple [.str z, d]).showable = true ∧ (PyData.tuple [.str z, d]).hasDict = false ∧ (PyData.tuple [.str z, d]).depth ≤ 60 ∧ (PyData.tuple [.str z, d]).shown.length ≤ 10000000 := by
  have h1 := len_repr hz.1 hz.2
  have h4 := len_tuple (PyData.shownAll [.str z, d])
  have h2 : d.shown.length ≤ 98 ∧ d.showable = true ∧ d.hasDict = false ∧ d.depth = 0 := by
    rcases hd with rfl | ⟨n, rfl, hn⟩
    · exact ⟨by decide +kernel, by decide +kernel, by decide +kernel, by decide +kernel⟩
    · have := len_repr hn.1 hn.2
      exact ⟨by simp only [PyData.shown]; omega, by simp [PyData.showable], by simp [PyData.hasDict], by simp [PyData.depth]⟩
  obtain ⟨a1, a2, a3, a4⟩ := h2
  have e1 : (PyData.str z).shown.length ≤ 90 := by simp only [PyData.shown]; omega
  have h5 : piled (PyData.shownAll [.str z, d]) ≤ 200 := by
    simp only [PyData.shownAll, piled_cons]
    have : piled [] = 0 := rfl
    omega
  refine ⟨by simp [PyData.showable, PyData.showableAll, a2], by simp [PyData.hasDict, PyData.hasDictAll, a3], ?_, ?_⟩
  · simp only [PyData.depth, PyData.depthAll]; omega
  · simp only [PyData.shown] at h4 ⊢; omega
theorem lack_at {l : List Pm} {ds : List PyData} {nm : List (Str × PyData)} {i : Nat} {p : Pm} (hn : (l.map (·.n)).Nodup) (hp : l[i]? = some p) : lackP (nm ++ posL l ds) p = (decide (i ≥ ds.length) && (!(getS nm p.n).isSome && isNone p.v)) := by
  unfold lackP
  rw [getS_app, posL_get hn hp]
  by_cases h : i < ds.length
  · rw [List.getElem?_eq_getElem h, decide_eq_false (show ¬ i ≥ ds.length by omega)]
    cases getS nm p.n <;> rfl
  · rw [List.getElem?_eq_none (by omega), decide_eq_true (show i ≥ ds.length by omega)]
    cases getS nm p.n <;> rfl
theorem valP_at {l : List Pm} {ds : List PyData} {nm : List (Str × PyData)} {i : Nat} {p : Pm} (hn : (l.map (·.n)).Nodup) (hp : l[i]? = some p) (ht : i < ds.length → getS nm p.n = none) : valP (nm ++ posL l ds) p = if i < ds.length then ds.getD i .none else (getS nm p.n).getD p.v := by
  unfold valP
  rw [getS_app, posL_get hn hp]
  by_cases h : i < ds.length
  · rw [ht h, if_pos h, List.getD_eq_getElem?_getD, List.getElem?_eq_getElem h]
    rfl
  · rw [if_neg h, List.getElem?_eq_none (by omega)]
    cases getS nm p.n <;> rfl
end Ov
namespace Ov
open PySem PySem.Spec PyProof.Rows L2
/-! ## d.items(), and sorted of them: the keys texts, the values flat -/
def rItemsK : V → List V → Hp → VK → Prop := fun x xs H Q => ∃ (a : Addr) (kvs : List (Key × V)), x = .ref a ∧ xs = [] ∧ H a = some (.dK kvs) ∧ ∀ p, H p = none → Q (.ref p) (upd H p (L2.DX.itemsO p a))
theorem mt_itemsK {X : Cx} : MtR X "dict.items" rItemsK := by
  rintro pins s σ H x xs v us Q I rx rxs ⟨a, kvs, rfl, rfl, ha, q⟩
  cases rx
  cases rxs
  obtain ⟨_, hsm, vs, rel, o, es, ep, ho, hx, hdat, _⟩ := dk_of I.hok ha
  exact DT.callItems (es := es) (ep := ep) hsm ⟨o, ho, hx, hdat⟩ ⟨.ref s.heap.objs.size, _, I.laid (t' := s.toks) (fun b u e => Heap.get?_push_of_some _ e) (Nat.le_refl _) (L2.DX.itemsO_ok (Heap.get?_push_size _ rfl)), rfl, q _ (I.hok.fresh (Nat.le_refl _))⟩
/-! how many texts of a list come before one -/
def rkS (ks : List Str) (y : Str) : Int := (ks.countP fun x => ltCps x.cps.toList y.cps.toList : Nat)
theorem lt_irr : ∀ a : List Nat, ltCps a a = false
  | [] => rfl
  | a :: r => by simp [ltCps, lt_irr r]
theorem lt_tr {a b c : List Nat} (h1 : ltCps a b = true) (h2 : ltCps b c = true) : ltCps a c = true := by
  cases h : ltCps a c with
  | true => rfl
  | false =>
    have z := lt_trans' c a b h (lt_asym _ _ h1)
    rw [z] at h2
    cases h2
theorem count_lt {α : Type} {p q : α → Bool} : ∀ {l : List α}, (∀ x ∈ l, p x = true → q x = true) → (∃ x ∈ l, p x = false ∧ q x = true) → l.countP p < l.countP q
  | [], _, ⟨_, h, _⟩ => by simp at h
  | x :: l, hm, ⟨y, hy, h1, h2⟩ => by
    have hle := List.countP_mono_left (l := l) (p := p) (q := q) fun z hz => hm z (List.mem_cons_of_mem _ hz)
    rw [List.countP_cons, List.countP_cons]
    rcases List.mem_cons.mp hy with rfl | hy
    · rw [h1, h2]; simp; omega
    · have ih := count_lt (l := l) (fun z hz => hm z (List.mem_cons_of_mem _ hz)) ⟨y, hy, h1, h2⟩
      have hx := hm x List.mem_cons_self
      cases hp : p x with
      | true => rw [hx hp]; simp; exact ih
      | false => split <;> split <;> first | omega | simp_all
theorem rk_lt {ks : List Str} {a b : Str} (ha : a ∈ ks) : decide (a.cps.toList < b.cps.toList) = decide (rkS ks a < rkS ks b) := by
  rw [← ltCps_eq]
  unfold rkS
  cases h : ltCps a.cps.toList b.cps.toList with
  | true =>
    refine (decide_eq_true ?_).symm
    have := count_lt (p := fun x : Str => ltCps x.cps.toList a.cps.toList) (q := fun x : Str => ltCps x.cps.toList b.cps.toList) (l := ks) (fun x _ hx => lt_tr hx h) ⟨a, ha, lt_irr _, h⟩
    omega
  | false =>
    refine (decide_eq_false ?_).symm
    have := List.countP_mono_left (l := ks) (p := fun x : Str => ltCps x.cps.toList b.cps.toList) (q := fun x : Str => ltCps x.cps.toList a.cps.toList) fun x _ hx => by
      cases h3 : ltCps x.cps.toList a.cps.toList with
      | true => rfl
      | false =>
        have z := lt_trans' _ _ _ h h3
        rw [z] at hx
        cases hx
    omega
/-! a pair of a text and something flat, in the heap -/
def keyT (h : Heap) : Value → Str
  | .ref a => match h.get? a with
    | some o => match o.data with
      | .seq xs _ => match xs.toList with
        | .str y _ :: _ => y
        | _ => Str.empty
      | _ => Str.empty
    | none => Str.empty
  | _ => Str.empty
def Pq (h : Heap) (v : Value) (y : Str) : Prop := ∃ (a : Addr) (o : Obj) (t : Tok) (x : V) (u : Value) (n : Nat), v = .ref a ∧ h.get? a = some o ∧ o.cls = .type "tuple" ∧ o.data = .seq #[.str y t, u] n ∧ RelV x u ∧ flatV x = true
theorem Pq.key {h : Heap} {v : Value} {y : Str} (p : Pq h v y) : keyT h v = y := by
  obtain ⟨a, o, t, x, u, n, rfl, ho, _, hd, _, _⟩ := p
  simp only [keyT, ho, hd]
theorem flat_self {A : Around} {s : Shared} {x : V} {u : Value} (r : RelV x u) (f : flatV x = true) : SeqAt.EqAt A s u u true := by
  have z := mem_eqAt (A := A) (s := s) r f (xs := [x]) (us := [u]) (.cons r .nil) (by simp [f]) u (by simp)
  have e : eqU x u = true := by
    rw [eqU_of r f]
    cases x <;> first | rfl | (cases f; done) | simp [eqV]
  rw [e] at z
  exact z
section
variable {prog : Program} {w : World} {A : Around} {E : Value → Shared → Prop} {s : Shared}
theorem pq_firsts {h : Heap} : ∀ vs : List Value, (∀ v ∈ vs, ∃ y, Pq h v y) → ∃ fs : List Value, PySem.W.KatTups h vs fs ∧ fs.length = vs.length ∧ ∀ f ∈ fs, ∃ y t, f = Value.str y t
  | [], _ => ⟨[], PySem.W.KatTups.nil, rfl, fun f hf => by simp at hf⟩
  | v :: vs, hv => by
    obtain ⟨fs, k, hl, hi⟩ := pq_firsts vs fun u hu => hv u (List.mem_cons_of_mem _ hu)
    obtain ⟨y, a, o, t, x, u, n, rfl, ho, hc, hd, _⟩ := hv v List.mem_cons_self
    refine ⟨.str y t :: fs, PySem.W.KatTups.cons ho hc hd rfl k, congrArg (· + 1) hl, fun f hf => ?_⟩
    rcases List.mem_cons.mp hf with rfl | hf
    · exact ⟨y, t, rfl⟩
    · exact hi f hf
/-- how the pairs are compared -/
theorem pq_cmp {vs : List Value} {rk : Value → Int} (hv : ∀ v ∈ vs, ∃ y, Pq s.heap v y) (inj : ∀ v ∈ vs, ∀ u ∈ vs, keyT s.heap v = keyT s.heap u → v = u) (hr : ∀ v ∈ vs, ∀ u ∈ vs, decide ((keyT s.heap v).cps.toList < (keyT s.heap u).cps.toList) = decide (rk v < rk u)) :
    TS.Cmp prog w A s (PyProof.Rows.tuples' true) (PyProof.Rows.pairsOf vs) rk := by
  intro p q hp hq Q' E' hQ
  rw [PyProof.Rows.pairsOf_toList] at hp hq
  have mp := (PyProof.Rows.mem_zip_self hp).2
  have mq := (PyProof.Rows.mem_zip_self hq).2
  obtain ⟨y, py⟩ := hv _ mp
  obtain ⟨z, pz⟩ := hv _ mq
  have e := hr _ mp _ mq
  have ej := inj _ mp _ mq
  rw [py.key, pz.key] at e ej
  rw [← e] at hQ
  generalize p.1 = pv at *
  generalize q.1 = qv at *
  obtain ⟨a, o, t, x, u, n, rfl, ho, hc, hd, r1, f1⟩ := py
  obtain ⟨b, o2, t2, x2, u2, n2, rfl, ho2, hc2, hd2, r2, f2⟩ := pz
  refine PySem.W.kat_lt ho hd ho2 hd2 ?_
  refine PySem.W.kat_cons (PySem.wpAny_eqBool_str (PySem.W.kat_go (fun h1 => ?_) fun h1 => ?_))
  · have eyz : y = z := of_decide_eq_true h1
    have eab := ej eyz
    cases eab
    rw [ho] at ho2
    cases ho2
    rw [hd] at hd2
    have eu : u = u2 := by injection hd2 with h3; simp at h3; exact h3.2
    subst eu
    rw [eyz] at hQ
    have hi : decide (z.cps.toList < z.cps.toList) = false := by rw [← ltCps_eq]; exact lt_irr _
    rw [hi] at hQ
    exact PySem.W.kat_yes (PySem.W.kat_cons (flat_self r1 f1 prog w _ _ (PySem.W.kat_yes (PySem.W.kat_nil hQ))))
  · exact PySem.W.kat_no (PyProof.Rows.oneLt_str hQ)
end
def txK : Key → Str
  | .inr x => x
  | .inl _ => Str.empty
def rSortKv : List V → Hp → VK → Prop := fun vs H Q => ∃ (p a : Addr) (kvs : List (Key × V)) (ks : List Str), vs = [.ref p] ∧ H p = some (L2.DX.itemsO p a) ∧ H a = some (.dK kvs) ∧ kvs.map (·.1) = ks.map Sum.inr ∧ kvs.length < 64 ∧ (∀ kv ∈ kvs, flatV kv.2 = true) ∧
  ∀ (H' : Hp) (l : Addr) (ps : List (Addr × Key × V)), (∀ b o, H b = some o → H' b = some o) → (ps.map (·.2)).Perm kvs → ps.Pairwise (fun e f => sle (txK e.2.1) (txK f.2.1)) → H l = none → (∀ z ∈ ps, H z.1 = none) → H' l = some (.lst (ps.map fun z => V.ref z.1)) →
    (∀ z ∈ ps, H' z.1 = some (.tup [kV z.2.1, z.2.2])) → Q (.ref l) H'
theorem pairs_get {P : Program} {w : World} : ∀ {es : List DictEntry} {vs : List (Key × Value)} {j : Nat} {e : DictEntry}, Pairs (mixKind P w) es vs → es[j]? = some e → ∃ z, vs[j]? = some z ∧ keyIs z.1 e.key = true ∧ e.val = z.2
  | _, _, _, _, .nil, h => by simp at h
  | _, _, 0, _, .cons h1 h2 _, h => by
    simp at h
    subst h
    exact ⟨_, rfl, h1, h2⟩
  | _, _, j + 1, _, .cons _ _ t, h => by
    obtain ⟨z, q1, q2⟩ := pairs_get (j := j) t (by simpa using h)
    exact ⟨z, by simpa using q1, q2⟩
theorem zip_ref : ∀ (as : List Addr) (kvs : List (Key × V)), as.length = kvs.length → (as.zip kvs).map (fun z => (Value.ref z.1, Value.ref z.1)) = (as.map Value.ref).zip (as.map Value.ref)
  | [], [], _ => rfl
  | [], _ :: _, h => by simp at h
  | _ :: _, [], h => by simp at h
  | a :: as, k :: kvs, h => by
    have ih := zip_ref as kvs (by simpa using h)
    simp only [List.zip_cons_cons, List.map_cons, ih]
theorem kv_keys {kvs : List (Key × V)} {vs : List (Key × Value)} (h : KV kvs vs) : kvs.map (·.1) = vs.map (·.1) := by
  induction h with
  | nil => rfl
  | cons h _ ih => rw [List.map_cons, List.map_cons, ih, h.1]
theorem cr_sortKv {X : Cx} (hc : X.calm = true) : CallR X (.builtin "sorted") rSortKv := by
  intro pins s σ H xs us Q I r h
  obtain ⟨p, a, kvs, ks, rfl, hp, ha, hks, h64, hfl, q⟩ := h
  obtain rfl := Vals.ref1 r
  have view : s.heap.IsItemsView p a := (show ObjOk X.prog X.w H s.heap p (L2.DX.itemsO p a) from I.hok p _ hp).1
  obtain ⟨_, hsm, vs, rel, o, es, ep, ho, hx, hdat, _, hpr, hnd⟩ := dk_of I.hok ha
  have l1 : kvs.length = vs.length := Paired.length rel
  have l2 : es.size = vs.length := by rw [← Array.length_toList]; exact hpr.length
  have ndk : (kvs.map (·.1)).Nodup := by
    have : kvs.map (·.1) = vs.map (·.1) := kv_keys rel
    rw [this]; exact hnd
  refine DT.sortedI (es := es) (ep := ep) (I.ok.hd hc) view ⟨o, ho, hx, hdat⟩ (by rw [sizeLine_eq]; omega) fun h' tk as hk hlt hl hG => ?_
  have lak : as.length = kvs.length := by omega
  have nda : as.Nodup := hG.rise.imp fun z => Nat.ne_of_lt z
  have made : ∀ (j : Nat) (b : Addr), as[j]? = some b → ∃ (x : Str) (t : Tok) (kv : Key × V) (u : Value), kvs[j]? = some kv ∧ kv.1 = .inr x ∧ RelV kv.2 u ∧ h'.get? b = some { cls := .type "tuple", data := .seq #[.str x t, u] } := by
    intro j b hj
    obtain ⟨en, he, hg⟩ := hG.pairs j b hj
    obtain ⟨z, hz, z1, z2⟩ := pairs_get hpr (show es.toList[j]? = some en by rw [Array.getElem?_toList]; exact he)
    obtain ⟨kv, hkv, k1, k2⟩ := L2.DX.pget rel hz
    have hm : (kvs.map (·.1))[j]? = some kv.1 := by rw [List.getElem?_map, hkv]; rfl
    rw [hks, List.getElem?_map] at hm
    obtain ⟨x, _, ex⟩ := Option.map_eq_some_iff.mp hm
    rw [← k1, ← ex] at z1
    rcases keyIs_shape z1 with ⟨i, t, e1, _⟩ | ⟨x', t, e1, e2⟩
    · cases e1
    · cases e1
      refine ⟨x, t, kv, en.val, hkv, ex.symm, by rw [z2]; exact k2, ?_⟩
      rw [hg, e2]
  have hob : (h'.push { cls := .type "list", data := .seq (as.map Value.ref).toArray }).get? h'.objs.size = some (PyProof.Rows.seqObj "list" (as.map Value.ref).toArray 0) := Heap.get?_push_size _ rfl
  have up : ∀ b o, h'.get? b = some o → (h'.push { cls := .type "list", data := .seq (as.map Value.ref).toArray }).get? b = some o ∧ b ≠ h'.objs.size := fun b o e => ⟨Heap.get?_push_of_some _ e, Nat.ne_of_lt (Heap.lt_size e)⟩
  generalize hh2 : h'.push { cls := .type "list", data := .seq (as.map Value.ref).toArray } = h2 at hob up ⊢
  have mid : ∀ (j : Nat) (b : Addr), as[j]? = some b → ∃ (x : Str) (kv : Key × V), kvs[j]? = some kv ∧ kv.1 = .inr x ∧ Pq (TS.midHeap h2 h'.objs.size (as.map Value.ref)) (.ref b) x := by
    intro j b hj
    obtain ⟨x, t, kv, u, hkv, ex, ru, hg⟩ := made j b hj
    obtain ⟨u1, u2⟩ := up _ _ hg
    exact ⟨x, kv, hkv, ex, b, _, t, kv.2, u, 0, rfl, TS.midHeap_old u2 u1, rfl, rfl, ru, hfl kv (List.mem_of_getElem? hkv)⟩
  have at_ : ∀ v ∈ as.map Value.ref, ∃ (j : Nat) (b : Addr) (x : Str) (kv : Key × V), v = .ref b ∧ as[j]? = some b ∧ kvs[j]? = some kv ∧ kv.1 = .inr x ∧ Pq (TS.midHeap h2 h'.objs.size (as.map Value.ref)) v x ∧ x ∈ ks := by
    intro v hv
    obtain ⟨b, hb, rfl⟩ := List.mem_map.mp hv
    obtain ⟨j, hj⟩ := List.mem_iff_getElem?.mp hb
    obtain ⟨x, kv, hkv, ex, hp⟩ := mid j b hj
    refine ⟨j, b, x, kv, rfl, hj, hkv, ex, hp, ?_⟩
    have hm : kv.1 ∈ kvs.map (·.1) := List.mem_map_of_mem (List.mem_of_getElem? hkv)
    rw [hks, ex] at hm
    obtain ⟨x', hx', e⟩ := List.mem_map.mp hm
    cases e
    exact hx'
  refine wpAny_call_entry PyProof.Rows.slot_list_sort ⟨_, hob, rfl⟩ PyProof.Rows.entry_list_sort
    (SK.plain_sort (s := { s with heap := h2, toks := tk }) (r := fun v => rkS ks (keyT (TS.midHeap h2 h'.objs.size (as.map Value.ref)) v)) hob (by rw [List.length_map]; omega) (fun htwo Qk hQk => ?_) fun ps out o1 o2 o3 => ⟨.none, rfl, ?_⟩) (PyProof.Rows.args_list_sort _)
  · obtain ⟨fs, kt, hfl', hstr⟩ := pq_firsts (h := TS.midHeap h2 h'.objs.size (as.map Value.ref)) (as.map Value.ref) fun v hv => let ⟨_, _, x, _, _, _, _, _, z, _⟩ := at_ v hv; ⟨x, z⟩
    refine PySem.W.kat_kind (s := { s with heap := TS.midHeap h2 h'.objs.size (as.map Value.ref), toks := tk }) (T := .type "str") kt (by omega) (fun f hf => ?_) rfl (hQk _ ?_)
    · obtain ⟨y, t, rfl⟩ := hstr f hf
      exact .now
    · refine pq_cmp (s := { s with heap := TS.midHeap h2 h'.objs.size (as.map Value.ref), toks := tk }) (fun v hv => let ⟨_, _, x, _, _, _, _, _, z, _⟩ := at_ v hv; ⟨x, z⟩) (fun v hv u hu e => ?_) fun v hv u hu => ?_
      · obtain ⟨j, b, x, kv, rfl, hj, hkv, ex, hp1, _⟩ := at_ v hv
        obtain ⟨i, c, y, kw, rfl, hi, hkw, ey, hp2, _⟩ := at_ u hu
        rw [hp1.key, hp2.key] at e
        subst e
        have hij : j = i := (List.getElem?_inj (i := j) (j := i) (by rw [List.length_map]; exact (List.getElem?_eq_some_iff.mp hkv).1) ndk).mp (by rw [List.getElem?_map, List.getElem?_map, hkv, hkw]; show some kv.1 = some kw.1; rw [ex, ey])
        subst hij
        rw [hj] at hi
        cases hi
        rfl
      · obtain ⟨j, b, x, kv, rfl, hj, hkv, ex, hp1, hx1⟩ := at_ v hv
        obtain ⟨i, c, y, kw, rfl, hi, hkw, ey, hp2, hx2⟩ := at_ u hu
        show decide ((keyT (TS.midHeap h2 h'.objs.size (as.map Value.ref)) (.ref b)).cps.toList < (keyT (TS.midHeap h2 h'.objs.size (as.map Value.ref)) (.ref c)).cps.toList) = decide (rkS ks (keyT (TS.midHeap h2 h'.objs.size (as.map Value.ref)) (.ref b)) < rkS ks (keyT (TS.midHeap h2 h'.objs.size (as.map Value.ref)) (.ref c)))
        rw [hp1.key, hp2.key]
        exact rk_lt hx1
  · show EP X pins σ Q (.ref h'.objs.size) { s with heap := PyProof.Rows.sortedHeap h2 h'.objs.size (as.map Value.ref) out, toks := tk }
    obtain ⟨zs, pz, ez⟩ := perm_lift (fun z : Addr × Key × V => (Value.ref z.1, Value.ref z.1)) o2 (as.zip kvs) (zip_ref as kvs lak)
    have idx : ∀ z ∈ zs, ∃ j : Nat, as[j]? = some z.1 ∧ kvs[j]? = some z.2 := fun z hz => by
      obtain ⟨j, hj⟩ := List.mem_iff_getElem?.mp (pz.mem_iff.mp hz)
      exact ⟨j, List.getElem?_zip_eq_some.mp hj⟩
    have hout : out.toList = zs.map fun z => Value.ref z.1 := by
      rw [o1, ← ez, List.map_map]
      rfl
    have hperm : (zs.map (·.2)).Perm kvs := by
      have e := pz.map (·.2)
      rwa [show (as.zip kvs).map (·.2) = kvs from List.map_snd_zip (by omega)] at e
    have hzl : zs.length = kvs.length := by have := hperm.length_eq; rwa [List.length_map] at this
    have hsort : zs.Pairwise (fun e f => sle (txK e.2.1) (txK f.2.1)) := by
      rw [← ez, List.pairwise_map] at o3
      refine List.Pairwise.imp_of_mem (fun {x y} hx hy hr => ?_) o3
      obtain ⟨j, j1, j2⟩ := idx x hx
      obtain ⟨i, i1, i2⟩ := idx y hy
      obtain ⟨x1, kv, g1, g2, g3⟩ := mid j x.1 j1
      obtain ⟨y1, kw, f1, f2, f3⟩ := mid i y.1 i1
      rw [j2] at g1
      cases g1
      rw [i2] at f1
      cases f1
      have hr' : rkS ks (keyT (TS.midHeap h2 h'.objs.size (as.map Value.ref)) (.ref x.1)) ≤ rkS ks (keyT (TS.midHeap h2 h'.objs.size (as.map Value.ref)) (.ref y.1)) := hr
      rw [g3.key, f3.key] at hr'
      have hy1 : y1 ∈ ks := by
        obtain ⟨_, _, x', kv', e1, e2, e3, e4, e5, e6⟩ := at_ (.ref y.1) (List.mem_map_of_mem (List.mem_of_getElem? i1))
        have : x' = y1 := e5.key.symm.trans f3.key
        rw [← this]; exact e6
      show ltCps (txK y.2.1).cps.toList (txK x.2.1).cps.toList = false
      rw [g2, f2]
      show ltCps y1.cps.toList x1.cps.toList = false
      rw [ltCps_eq, rk_lt hy1]
      exact decide_eq_false (by omega)
    have kp : ∀ b o, b ≠ h'.objs.size → h2.get? b = some o → (PyProof.Rows.sortedHeap h2 h'.objs.size (as.map Value.ref) out).get? b = some o := fun b o hb e => (PyProof.Rows.sortedHeap_old hb (Heap.lt_size e)).trans e
    have kp' : ∀ b o, h'.get? b = some o → (PyProof.Rows.sortedHeap h2 h'.objs.size (as.map Value.ref) out).get? b = some o := fun b o e => kp b o (up b o e).2 (up b o e).1
    obtain ⟨eF, heF⟩ := PyProof.Rows.sortedHeap_at (vs := as.map Value.ref) (out := out) hob
    have I1 : Inv X pins σ H { s with heap := PyProof.Rows.sortedHeap h2 h'.objs.size (as.map Value.ref) out, toks := tk } := I.kept (t' := tk) fun b o e => kp' b o (hk b o e)
    have hn0 : H h'.objs.size = none := I.hok.fresh (Nat.le_of_lt hlt)
    have rv : Vals (zs.map fun z => V.ref z.1) out.toList := by
      rw [hout]
      exact vals_maps (fun z : Addr × Key × V => V.ref z.1) (fun z => Value.ref z.1) zs fun _ _ => rfl
    have I2 : Inv X pins σ (upd H h'.objs.size (.lst (zs.map fun z => V.ref z.1))) { s with heap := PyProof.Rows.sortedHeap h2 h'.objs.size (as.map Value.ref) out, toks := tk } := I1.take (h' := PyProof.Rows.sortedHeap h2 h'.objs.size (as.map Value.ref) out) (t' := tk) (fun b ob _ e => e) (I.fpOk (Nat.le_of_lt hlt) hn0) ⟨by rw [List.length_map, sizeLine_eq]; omega, out.toList, eF, rv, heF⟩
    obtain ⟨H2, I3, g, qt⟩ := L2.DX.takeT (P := fun b ws => ∃ (j : Nat) (kv : Key × V), as[j]? = some b ∧ kvs[j]? = some kv ∧ ws = [kV kv.1, kv.2]) I as _ I2 nda fun b hb => by
      obtain ⟨j, hj⟩ := List.mem_iff_getElem?.mp hb
      obtain ⟨x, t, kv, u, hkv, ex, ru, hg⟩ := made j b hj
      have hbl : s.heap.objs.size ≤ b := Nat.le_of_lt (hG.above b hb)
      refine ⟨hbl, ?_, [kV kv.1, kv.2], ⟨j, kv, hj, hkv, rfl⟩, fun H3 => ⟨by show 2 ≤ sizeLine; decide, [.str x t, u], ?_, ⟨_, kp' _ _ hg, rfl, 0, rfl⟩⟩⟩
      · rw [upd_ne (up _ _ hg).2]
        exact I.hok.fresh hbl
      · rw [ex]
        exact .cons ⟨t, rfl⟩ (.cons ru .nil)
    refine ⟨.ref h'.objs.size, H2, I3, rfl, q H2 h'.objs.size zs (fun b o e => g b o (by rw [upd_ne (ne_of_none e hn0)]; exact e)) hperm hsort hn0 (fun z hz => ?_) (g _ _ upd_same) fun z hz => ?_⟩
    · obtain ⟨j, j1, _⟩ := idx z hz
      exact I.hok.fresh (Nat.le_of_lt (hG.above _ (List.mem_of_getElem? j1)))
    · obtain ⟨j, j1, j2⟩ := idx z hz
      obtain ⟨ws, ⟨i, kv, i1, i2, ev⟩, hH⟩ := qt z.1 (List.mem_of_getElem? j1)
      have eij : j = i := (List.getElem?_inj (List.getElem?_eq_some_iff.mp j1).1 nda).mp (j1.trans i1.symm)
      subst eij
      rw [j2] at i2
      cases i2
      rw [hH, ev]
end Ov
namespace Ov
open PySem PySem.Spec PyProof.Rows L2
/-! ## what only grows -/
def FlD (d : PyData) : Prop := (∃ i, d = .int i) ∨ ∃ s, d = .str s
theorem Dq.flat {K : PySem.W.Frag} {H : Hp} {v : V} {d : PyData} (h : Dq K H v d) (f : FlD d) : flatV v = true := by
  rcases f with ⟨i, rfl⟩ | ⟨s, rfl⟩ <;> cases h <;> rfl
section
variable {K : PySem.W.Frag} {S : Sto} {H H' : Hp} {δ : Dl} {P : Po} {td te ta tb : TE} {tas : TA} {nm : List (Str × PyData)} {a b : AV}
theorem Go.grow (rs : RS K S H) (k : ∀ b o, H b = some o → H' b = some o) : Go K S H S H' := by
  have ex : Ex (msk S H) (msk S H') := fun a u e => by
    unfold msk at e ⊢
    split at e
    · cases e
    · rename_i hs
      rw [if_neg hs]
      exact k _ _ e
  exact ⟨fun a u e => (rs a u e).up ex fun w hw => k _ _ hw, ex⟩
theorem msk_at {p : Addr} {o : HO} (hs : S p = none) (h : H p = some o) : msk S H p = some o := by
  unfold msk
  rw [hs]
  exact h
/-! ## sorted(d.items()) -/
theorem rks_zip : ∀ {kvs : List (Key × V)} {nm : List (Str × PyData)}, RKs K S H kvs (nm.map kvA) → kvs.length = nm.length ∧ ∀ z ∈ kvs.zip nm, z.1.1 = Sum.inr z.2.1 ∧ Dq K (msk S H) z.1.2 z.2.2
  | _, [], h => by cases h; exact ⟨rfl, fun z hz => by simp at hz⟩
  | _, (x, d) :: nm, h => by
    rw [List.map_cons] at h
    generalize hl : kvA (x, d) = kv at h
    cases h with
    | @cons k v a vs as r t =>
      have e1 : k = Sum.inr x := by cases hl; rfl
      have e2 : a = AV.dat d := by cases hl; rfl
      subst e1 e2
      obtain ⟨h1, h2⟩ := rks_zip t
      refine ⟨congrArg (· + 1) h1, fun z hz => ?_⟩
      rw [List.zip_cons_cons] at hz
      rcases List.mem_cons.mp hz with rfl | hz
      · exact ⟨rfl, r⟩
      · exact h2 z hz
theorem pairs_dq {M : Hp} : ∀ {ps : List (Addr × Key × V)} {zs : List ((Key × V) × (Str × PyData))}, zs.map (·.1) = ps.map (·.2) → (∀ z ∈ ps, M z.1 = some (.tup [kV z.2.1, z.2.2])) → (∀ z ∈ zs, z.1.1 = Sum.inr z.2.1 ∧ Dq K M z.1.2 z.2.2) → DqAll K M (ps.map fun z => V.ref z.1) ((zs.map (·.2)).map pairD)
  | [], [], _, _, _ => .nil
  | [], _ :: _, e, _, _ => by simp at e
  | _ :: _, [], e, _, _ => by simp at e
  | p :: ps, z :: zs, e, h1, h2 => by
    rw [List.map_cons, List.map_cons] at e
    injection e with e1 e2
    obtain ⟨k1, k2⟩ := h2 z List.mem_cons_self
    have hp := h1 p List.mem_cons_self
    have e1' : p.2 = z.1 := e1.symm
    rw [e1', k1] at hp
    exact .cons (Dq.tup (SqT.of hp) (.cons (Dq.str _) (.cons k2 .nil))) (pairs_dq e2 (fun z hz => h1 z (List.mem_cons_of_mem _ hz)) fun z hz => h2 z (List.mem_cons_of_mem _ hz))
theorem we_sortKv (h : Ov.WE K td δ S fun a S1 => ∃ nm, Dk S1 a nm ∧ nm.length < 64 ∧ (∀ kv ∈ nm, FlD kv.2) ∧ ∀ ys : List (Str × PyData), ys.Perm nm → ys.Pairwise (fun e f => sle e.1 f.1) → P (.dat (.list (ys.map pairD))) S1) :
    Ov.WE K (tCB rSortKv (tCons (tBM0 K "dict" rItemsK td) tNil)) δ S P := fun σ H Q rs s kk =>
  h σ H _ rs s fun x H1 a S1 g1 r1 ⟨nm, hk, h64, hf, p⟩ => by
    obtain ⟨q, vs, rfl, q1, q2⟩ := hk.at_ g1.rs r1
    obtain ⟨z1, z2⟩ := rks_zip q2
    refine ⟨.inr (.inr (.inl ⟨rfl, .inl ⟨vs, q1⟩⟩)), q, vs, rfl, rfl, q1, fun i hi => ?_⟩
    have gi := Go.new (o := L2.DX.itemsO i q) g1.rs hi
    have hqi : q ≠ i := ne_of_none q1 hi
    show rSortKv [.ref i] (upd H1 i (L2.DX.itemsO i q)) Q
    refine ⟨i, q, vs, nm.map (·.1), rfl, upd_same, by rw [upd_ne hqi]; exact q1, by rw [q2.keys, List.map_map, List.map_map]; rfl, by omega, fun kv hkv => ?_, fun H' l ps hg hp hs hl hz hL hZ => ?_⟩
    · obtain ⟨j, hj⟩ := List.mem_iff_getElem?.mp hkv
      have hj2 : j < nm.length := by rw [← z1]; exact (List.getElem?_eq_some_iff.mp hj).1
      have hm : (kv, nm[j]) ∈ vs.zip nm := List.mem_of_getElem? (List.getElem?_zip_eq_some.mpr ⟨hj, List.getElem?_eq_getElem hj2⟩)
      exact (z2 _ hm).2.flat (hf _ (List.getElem_mem hj2))
    · have g2 := gi.trans (Go.grow (H' := H') gi.rs hg)
      obtain ⟨zs, pz, ez⟩ := perm_lift (fun z : (Key × V) × (Str × PyData) => z.1) hp (vs.zip nm) (List.map_fst_zip (by omega))
      have pm : (zs.map (·.2)).Perm nm := by
        have e := pz.map (·.2)
        rwa [show (vs.zip nm).map (·.2) = nm from List.map_snd_zip (by omega)] at e
      have hzz : ∀ z ∈ zs, z.1.1 = Sum.inr z.2.1 ∧ Dq K (msk S1 H') z.1.2 z.2.2 := fun z hz => let y := z2 z (pz.mem_iff.mp hz); ⟨y.1, dp_up g2.ex y.2⟩
      have hord : (zs.map (·.2)).Pairwise (fun e f => sle e.1 f.1) := by
        have e1 : (ps.map (·.2)).Pairwise (fun e f => sle (txK e.1) (txK f.1)) := List.pairwise_map.mpr hs
        rw [← ez, List.pairwise_map] at e1
        rw [List.pairwise_map]
        refine List.Pairwise.imp_of_mem (fun {x y} hx hy hr => ?_) e1
        have hr' : sle (txK x.1.1) (txK y.1.1) := hr
        rw [(hzz x hx).1, (hzz y hy).1] at hr'
        exact hr'
      have nn : ∀ b : Addr, (upd H1 i (L2.DX.itemsO i q)) b = none → S1 b = none := fun b hb => gi.rs.none_of hb
      refine kk (.ref l) H' (.dat (.list ((zs.map (·.2)).map pairD))) S1 (g1.trans g2) (Dq.lst (msk_at (nn l hl) hL) ?_) (p _ pm hord)
      exact pairs_dq ez (fun z' hz' => msk_at (nn z'.1 (hz z' hz')) (hZ z' hz')) hzz
theorem sort_kv {m y1 y2 : List (Str × PyData)} (h1 : y1.Perm m) (s1 : y1.Pairwise fun e f => sle e.1 f.1) (h2 : y2.Perm m) (s2 : y2.Pairwise fun e f => sle e.1 f.1) (nd : (m.map (·.1)).Nodup) : y1 = y2 := by
  refine List.Perm.eq_of_pairwise (le := fun e f : Str × PyData => sle e.1 f.1) (fun a b ha hb h k => ?_) s1 s2 (h1.trans h2.symm)
  have e : a.1 = b.1 := str_ext (lt_anti _ _ k h)
  obtain ⟨i, hi⟩ := List.mem_iff_getElem?.mp (h1.mem_iff.mp ha)
  obtain ⟨j, hj⟩ := List.mem_iff_getElem?.mp (h2.mem_iff.mp hb)
  have hij : i = j := (List.getElem?_inj (i := i) (j := j) (by rw [List.length_map]; exact (List.getElem?_eq_some_iff.mp hi).1) nd).mp (by rw [List.getElem?_map, List.getElem?_map, hi, hj]; exact congrArg some e)
  subst hij
  rw [hi] at hj
  cases hj
  rfl
/-! ## list(d.items()), d.clear() -/
theorem refs_dq {M : Hp} : ∀ {ts : List Addr} {vs : List (Key × V)} {nm : List (Str × PyData)}, Paired (fun (t : Addr) (q : Key × V) => M t = some (.tup [kV q.1, q.2])) ts vs → RKs K S H vs (nm.map kvA) → (∀ v d, Dq K (msk S H) v d → Dq K M v d) → DqAll K M (ts.map V.ref) (nm.map pairD)
  | _, _, [], hp, h, _ => by cases h; cases hp; exact .nil
  | _, _, (x, d) :: nm, hp, h, up => by
    rw [List.map_cons] at h
    generalize hl : kvA (x, d) = kv at h
    cases h with
    | @cons k v a vs as r t =>
      have e1 : k = Sum.inr x := by cases hl; rfl
      have e2 : a = AV.dat d := by cases hl; rfl
      subst e1 e2
      cases hp with
      | cons h1 h2 => exact .cons (Dq.tup (SqT.of h1) (.cons (Dq.str _) (.cons (up _ _ r) .nil))) (refs_dq h2 t up)
theorem paired_mem {α β : Type} {F G : α → β → Prop} : ∀ {xs : List α} {ys : List β}, Paired F xs ys → (∀ x ∈ xs, ∀ y, F x y → G x y) → Paired G xs ys
  | _, _, .nil, _ => .nil
  | _, _, .cons h t, k => .cons (k _ List.mem_cons_self _ h) (paired_mem t fun x hx => k x (List.mem_cons_of_mem _ hx))
theorem we_listItems (h : Ov.WE K td δ S fun a S1 => ∃ nm, Dk S1 a nm ∧ P (.dat (.list (nm.map pairD))) S1) : Ov.WE K (LiI.tListItems td) δ S P := fun σ H Q rs s kk =>
  h σ H _ rs s fun x H1 a S1 g1 r1 ⟨nm, hk, p⟩ => by
    obtain ⟨q, vs, rfl, q1, q2⟩ := hk.at_ g1.rs r1
    refine ⟨q, vs, rfl, q1, fun H' l ts hg hl ht _ hL hT => ?_⟩
    have g2 := Go.grow (H' := H') g1.rs hg
    refine kk (.ref l) H' (.dat (.list (nm.map pairD))) S1 (g1.trans g2) (Dq.lst (msk_at (g1.rs.none_of hl) hL) ?_) p
    exact refs_dq (paired_mem hT fun t m y e => msk_at (g1.rs.none_of (ht t m)) e) q2 fun v d => dp_up g2.ex
theorem we_dclear (h : Ov.WE K td δ S fun a S1 => ∃ q kvs, a = .own q ∧ S1 q = some (.dct kvs) ∧ P (.dat .none) (S1.set q (.dct []))) : Ov.WE K (tBM0 K "dict" rDClear td) δ S P := fun σ H Q rs s kk =>
  h σ H _ rs s fun x H1 a S1 g1 r1 ⟨q, kvs, e, hq, p⟩ => by
    subst e
    cases r1
    obtain ⟨vs, q1, q2⟩ := g1.rs q _ hq
    refine ⟨.inr (.inr (.inl ⟨rfl, .inl ⟨vs, q1⟩⟩)), q, vs, rfl, rfl, q1, ?_⟩
    have g := Go.put (p := q) (o := .dK []) (ao := .dct []) g1.rs (by rw [hq]; rfl) fun S' H' e z => ⟨[], z, .nil⟩
    exact kk .non _ (.dat .none) _ (g1.trans g) Dq.non p
/-! ## tuples of anything -/
theorem we_tupO (h : WA K tas δ S fun as S1 => as.length ≤ 100000 ∧ ∀ p, S1 p = none → P (.own p) (S1.set p (.tup as))) : Ov.WE K (tTup tas) δ S P := fun σ H Q rs s k =>
  h σ H _ rs s fun xs H1 as S1 g1 r1 ⟨hl, p⟩ => by
    refine ⟨Nat.le_trans (by rw [r1.len]; exact hl) (by decide), fun q hq => ?_⟩
    have g2 : Go K S1 H1 (S1.set q (.tup as)) (upd H1 q (.tup xs)) := Go.own g1.rs hq fun S' H' e z => ⟨xs, z, r1.up e⟩
    exact k _ _ (.own q) _ (g1.trans g2) rfl (p q (g1.rs.none_of hq))
theorem wg_tupO {n : Nat} {gs : TGs} {q : Addr} {as : List AV} {P : Dl → Sto → Prop} (hq : S q = some (.tup as)) (e : as.length = n) (h : WGs K gs as δ S P) : WG K (gTup K n gs) (.own q) δ S P := fun v σ H Q rs s r k => by
  cases r
  obtain ⟨xs, q1, q2⟩ := rs q _ hq
  exact ⟨_, _, rfl, SqT.of q1, by rw [q2.len]; exact e, h _ σ H Q rs s q2 k⟩
end
/-! ## == and != of dicts of flat values -/
def eqE (ls : List (Key × V)) (p : Key × V) : Bool := match valV ls p.1 with
  | some y => eqV p.2 y
  | none => false
def eqDV (ks ls : List (Key × V)) : Bool := (ks.length == ls.length) && ks.all (eqE ls)
theorem valV_mem {k : Key} {v : V} : ∀ {ls : List (Key × V)}, valV ls k = some v → ∃ p ∈ ls, p.2 = v := fun {ls} h => by
  unfold valV at h
  obtain ⟨p, h1, h2⟩ := Option.map_eq_some_iff.mp h
  exact ⟨p, List.mem_of_find?_eq_some h1, h2⟩
theorem hits_fl {A : Around} {s : Shared} {ls : List (Key × V)} {vb : List (Key × Value)} (rb : KV ls vb) (fb : ∀ p ∈ ls, flatV p.2 = true) : ∀ {ks : List (Key × V)} {va : List (Key × Value)}, KV ks va → (∀ p ∈ ks, flatV p.2 = true) → ∃ r, PySem.W.KeqHits A s vb va r ∧ r = ks.all (eqE ls)
  | _, _, .nil, _ => ⟨true, .nil, rfl⟩
  | (k, x) :: ks, (k', u) :: va, .cons ⟨hk, r⟩ t, f => by
    obtain ⟨r', h1, h2⟩ := hits_fl rb fb t fun p hp => f p (List.mem_cons_of_mem _ hp)
    have hk : k = k' := hk
    subst hk
    have rel := rb.val k
    unfold eqE at h2 ⊢
    rw [List.all_cons]
    cases hv : valV ls k with
    | none =>
      rw [hv] at rel
      cases hz : valueAt vb k with
      | some y => rw [hz] at rel; exact rel.elim
      | none => exact ⟨false, .miss hz, rfl⟩
    | some y =>
      rw [hv] at rel
      cases hz : valueAt vb k with
      | none => rw [hz] at rel; exact rel.elim
      | some y' =>
        rw [hz] at rel
        obtain ⟨p, hp, e⟩ := valV_mem hv
        have fy : flatV y = true := e ▸ fb p hp
        refine ⟨eqV x y && r', .hit hz (eqAt_V r rel (f _ List.mem_cons_self) fy) h1, ?_⟩
        rw [h2]
def rEqDf : R2 := fun x y H Q => ∃ a b ks ls, x = .ref a ∧ y = .ref b ∧ H a = some (.dK ks) ∧ H b = some (.dK ls) ∧ (∀ p ∈ ks, flatV p.2 = true) ∧ (∀ p ∈ ls, flatV p.2 = true) ∧ Q (.bl (eqDV ks ls)) H
def rNeDf : R2 := fun x y H Q => ∃ a b ks ls, x = .ref a ∧ y = .ref b ∧ H a = some (.dK ks) ∧ H b = some (.dK ls) ∧ (∀ p ∈ ks, flatV p.2 = true) ∧ (∀ p ∈ ls, flatV p.2 = true) ∧ Q (.bl (!eqDV ks ls)) H
theorem op_eq_df {X : Cx} (hu : X.A.units + 64 < cLine) : OpR X (compareOp .Eq) rEqDf := by
  intro pins s σ H x y v u Q I rx ry h
  obtain ⟨a, b, ks, ls, rfl, rfl, ea, eb, fa, fb, q⟩ := h
  obtain rfl : v = Value.ref a := rx
  obtain rfl : u = Value.ref b := ry
  obtain ⟨_, ya, va, ra, da⟩ := (show ObjOk X.prog X.w H s.heap a (.dK ks) from I.hok a _ ea)
  obtain ⟨_, yb, vb, rb, db⟩ := (show ObjOk X.prog X.w H s.heap b (.dK ls) from I.hok b _ eb)
  obtain ⟨r, h1, h2⟩ := hits_fl (A := X.A.in1) (s := s) rb fb ra fa
  exact PySem.W.keq_eq (knd := mixKind X.prog X.w) (r := r) ya yb da db (by omega) (fun _ => h1) (fin_bl I q (by rw [h2]; unfold eqDV; rw [ra.length, rb.length]))
theorem op_ne_df {X : Cx} (hu : X.A.units + 64 < cLine) : OpR X (compareOp .NotEq) rNeDf := by
  intro pins s σ H x y v u Q I rx ry h
  obtain ⟨a, b, ks, ls, rfl, rfl, ea, eb, fa, fb, q⟩ := h
  obtain rfl : v = Value.ref a := rx
  obtain rfl : u = Value.ref b := ry
  obtain ⟨_, ya, va, ra, da⟩ := (show ObjOk X.prog X.w H s.heap a (.dK ks) from I.hok a _ ea)
  obtain ⟨_, yb, vb, rb, db⟩ := (show ObjOk X.prog X.w H s.heap b (.dK ls) from I.hok b _ eb)
  obtain ⟨r, h1, h2⟩ := hits_fl (A := X.A.in1) (s := s) rb fb ra fa
  exact PySem.W.keq_ne (knd := mixKind X.prog X.w) (r := r) ya yb da db (by omega) (fun _ => h1) (fin_bl I q (by rw [h2]; unfold eqDV; rw [ra.length, rb.length]))
end Ov
namespace Ov
open PySem PySem.Spec PyProof.Rows L2
/-! ## dicts of flat data compared -/
def eqF : PyData → PyData → Bool
  | .int i, .int j => i == j
  | .str a, .str b => a == b
  | _, _ => false
theorem eqF_self {d : PyData} (f : FlD d) : eqF d d = true := by
  rcases f with ⟨i, rfl⟩ | ⟨s, rfl⟩ <;> simp [eqF]
def eqG (nm2 : List (Str × PyData)) (kv : Str × PyData) : Bool := match getS nm2 kv.1 with
  | some y => eqF kv.2 y
  | none => false
def eqK (nm1 nm2 : List (Str × PyData)) : Bool := (nm1.length == nm2.length) && nm1.all (eqG nm2)
theorem getS_nd {nm : List (Str × PyData)} (h : (nm.map (·.1)).Nodup) : ∀ kv ∈ nm, getS nm kv.1 = some kv.2 := by
  induction nm with
  | nil => intro kv h; simp at h
  | cons p nm ih =>
    obtain ⟨x, d⟩ := p
    rw [List.map_cons, List.nodup_cons] at h
    intro kv hk
    rw [getS_cons]
    rcases List.mem_cons.mp hk with rfl | hk
    · rw [if_pos rfl]
    · rw [if_neg (fun e => h.1 (by rw [show (x, d).1 = kv.1 from e]; exact List.mem_map_of_mem hk))]
      exact ih h.2 kv hk
theorem eqK_self {nm : List (Str × PyData)} (h : (nm.map (·.1)).Nodup) (f : ∀ kv ∈ nm, FlD kv.2) : eqK nm nm = true := by
  unfold eqK
  rw [Bool.and_eq_true, List.all_eq_true]
  refine ⟨by simp, fun kv hk => ?_⟩
  unfold eqG
  rw [getS_nd h kv hk]
  exact eqF_self (f kv hk)
theorem getS_perm {nm mm : List (Str × PyData)} (p : nm.Perm mm) (h : (nm.map (·.1)).Nodup) (n : Str) : getS nm n = getS mm n := by
  have h2 : (mm.map (·.1)).Nodup := (p.map (·.1)).nodup_iff.mp h
  cases e : getS nm n with
  | some d => exact (getS_nd h2 (n, d) (p.mem_iff.mp (getS_mem e))).symm
  | none =>
    cases e2 : getS mm n with
    | none => rfl
    | some d =>
      have := getS_nd h (n, d) (p.mem_iff.mpr (getS_mem e2))
      rw [e] at this
      cases this
section
variable {K : PySem.W.Frag} {S : Sto} {H : Hp} {a b : AV} {P : Po} {nm1 nm2 : List (Str × PyData)}
theorem eqV_fl {M N : Hp} {x y : V} {d e : PyData} (h1 : Dq K M x d) (h2 : Dq K N y e) (f : FlD d) (g : FlD e) : eqV x y = eqF d e := by
  rcases f with ⟨i, rfl⟩ | ⟨s, rfl⟩ <;> rcases g with ⟨j, rfl⟩ | ⟨t, rfl⟩ <;> cases h1 <;> cases h2 <;> rfl
theorem rks_fl : ∀ {vs : List (Key × V)} {nm : List (Str × PyData)}, RKs K S H vs (nm.map kvA) → (∀ kv ∈ nm, FlD kv.2) → ∀ p ∈ vs, flatV p.2 = true
  | _, [], h, _ => by cases h; simp
  | _, (x, d) :: nm, h, f => by
    rw [List.map_cons] at h
    generalize hl : kvA (x, d) = kv at h
    cases h with
    | @cons k v a vs as r t =>
      have e2 : a = AV.dat d := by cases hl; rfl
      subst e2
      intro p hp
      rcases List.mem_cons.mp hp with rfl | hp
      · exact Dq.flat (show Dq K (msk S H) v d from r) (f _ List.mem_cons_self)
      · exact rks_fl t (fun kv h => f kv (List.mem_cons_of_mem _ h)) p hp
theorem all_eqE {ls : List (Key × V)} (r2 : RKs K S H ls (nm2.map kvA)) (f2 : ∀ kv ∈ nm2, FlD kv.2) : ∀ {vs : List (Key × V)} {nm : List (Str × PyData)}, RKs K S H vs (nm.map kvA) → (∀ kv ∈ nm, FlD kv.2) → vs.all (eqE ls) = nm.all (eqG nm2)
  | _, [], h, _ => by cases h; rfl
  | _, (x, d) :: nm, h, f => by
    rw [List.map_cons] at h
    generalize hl : kvA (x, d) = kv at h
    cases h with
    | @cons k v a vs as r t =>
      have e1 : k = Sum.inr x := by cases hl; rfl
      have e2 : a = AV.dat d := by cases hl; rfl
      subst e1 e2
      rw [List.all_cons, List.all_cons, all_eqE r2 f2 t fun kv h => f kv (List.mem_cons_of_mem _ h)]
      refine congrArg (· && _) ?_
      unfold eqE eqG
      have ev := valA_kv (n := x) (nm := nm2)
      have eo := Dk.valV (n := x) r2
      cases hg : getS nm2 x with
      | some c =>
        rw [hg] at ev
        obtain ⟨u, v1, v2⟩ := r2.val ev
        rw [show valV ls (Sum.inr x, v).1 = some u from v1]
        exact eqV_fl r v2 (f _ List.mem_cons_self) (f2 _ (getS_mem hg))
      | none =>
        rw [hg] at eo
        cases hz : valV ls (.inr x) with
        | some u => rw [hz] at eo; cases eo
        | none => rfl
theorem eqDV_kv {vs ls : List (Key × V)} (r1 : RKs K S H vs (nm1.map kvA)) (r2 : RKs K S H ls (nm2.map kvA)) (f1 : ∀ kv ∈ nm1, FlD kv.2) (f2 : ∀ kv ∈ nm2, FlD kv.2) : eqDV vs ls = eqK nm1 nm2 := by
  unfold eqDV eqK
  rw [all_eqE r2 f2 r1 f1, (rks_zip r1).1, (rks_zip r2).1]
theorem w2_eqDf (h1 : Dk S a nm1) (h2 : Dk S b nm2) (f1 : ∀ kv ∈ nm1, FlD kv.2) (f2 : ∀ kv ∈ nm2, FlD kv.2) (p : P (.dat (.bool (eqK nm1 nm2))) S) : W2 K rEqDf a b S P := fun x y H Q rs ra rb k => by
  obtain ⟨q, vs, rfl, q1, q2⟩ := h1.at_ rs ra
  obtain ⟨z, ls, rfl, z1, z2⟩ := h2.at_ rs rb
  refine ⟨q, z, vs, ls, rfl, rfl, q1, z1, rks_fl q2 f1, rks_fl z2 f2, ?_⟩
  rw [eqDV_kv q2 z2 f1 f2]
  exact fin_d rs k (Dq.bl _) p
theorem w2_neDf (h1 : Dk S a nm1) (h2 : Dk S b nm2) (f1 : ∀ kv ∈ nm1, FlD kv.2) (f2 : ∀ kv ∈ nm2, FlD kv.2) (p : P (.dat (.bool (!eqK nm1 nm2))) S) : W2 K rNeDf a b S P := fun x y H Q rs ra rb k => by
  obtain ⟨q, vs, rfl, q1, q2⟩ := h1.at_ rs ra
  obtain ⟨z, ls, rfl, z1, z2⟩ := h2.at_ rs rb
  refine ⟨q, z, vs, ls, rfl, rfl, q1, z1, rks_fl q2 f1, rks_fl z2 f2, ?_⟩
  rw [eqDV_kv q2 z2 f1 f2]
  exact fin_d rs k (Dq.bl _) p
end
theorem call_dictPk' {X : Cx} (K : PySem.W.Frag) (hcalm : X.calm = true) (h : X.K = K := by rfl) : CallR X (.type "dict") (rDictP K) := h ▸ call_dictPk hcalm
theorem dns_dats {S : Sto} : ∀ ds : List PyData, DNs S (dats ds) ds
  | [] => .nil
  | d :: ds => .cons (.dat d) (dns_dats ds)
theorem ge_set {S : Sto} {a q : Addr} {o u : AO} (h : S q = none) (e : S a = some o) : (S.set q u) a = some o := (Grow.refl S).set h a o e
/-! ## a call that is right -/
structure BOk (l : List Pm) (w : Nat) (ds : List PyData) (nm : List (Str × PyData)) (vs : List PyData) : Prop where
  hn : (l.map (·.n)).Nodup
  hw : ds.length ≤ w
  hv : vs.length = l.length
  hk : ∀ kv ∈ nm, ∃ j p, ds.length ≤ j ∧ l[j]? = some p ∧ kv.1 = p.n
  hg : ∀ j p v, l[j]? = some p → vs[j]? = some v → hasSortD v p.s = true ∧ (j < ds.length → ds[j]? = some v) ∧ (ds.length ≤ j → getS nm p.n = some v ∨ (getS nm p.n = none ∧ p.v = v ∧ isNone p.v = false))
section
variable {l : List Pm} {w : Nat} {ds vs : List PyData} {nm : List (Str × PyData)}
theorem nd_at {i j : Nat} {p q : Pm} (hn : (l.map (·.n)).Nodup) (h1 : l[i]? = some p) (h2 : l[j]? = some q) (e : p.n = q.n) : i = j :=
  (List.getElem?_inj (i := i) (j := j) (by rw [List.length_map]; exact (List.getElem?_eq_some_iff.mp h1).1) hn).mp (by rw [List.getElem?_map, List.getElem?_map, h1, h2]; exact congrArg some e)
theorem BOk.no (h : BOk l w ds nm vs) {j : Nat} {p : Pm} (hp : l[j]? = some p) (hj : j < ds.length) : getS nm p.n = none := by
  cases e : getS nm p.n with
  | none => rfl
  | some d =>
    obtain ⟨i, q, h1, h2, h3⟩ := h.hk _ (getS_mem e)
    have := nd_at h.hn hp h2 h3
    omega
theorem BOk.val (h : BOk l w ds nm vs) {j : Nat} {p : Pm} {v : PyData} (hp : l[j]? = some p) (hv : vs[j]? = some v) : valP (nm ++ posL l ds) p = v := by
  obtain ⟨_, h1, h2⟩ := h.hg j p v hp hv
  rw [valP_at h.hn hp fun hj => h.no hp hj]
  by_cases hj : j < ds.length
  · rw [if_pos hj, List.getD_eq_getElem?_getD, h1 hj]; rfl
  · rw [if_neg hj]
    rcases h2 (by omega) with e | ⟨e, e2, _⟩
    · rw [e]; rfl
    · rw [e, ← e2]; rfl
theorem BOk.at (h : BOk l w ds nm vs) {p : Pm} (hp : p ∈ l) : ∃ (j : Nat) (v : PyData), l[j]? = some p ∧ vs[j]? = some v := by
  obtain ⟨j, hj⟩ := List.mem_iff_getElem?.mp hp
  have : j < vs.length := by rw [h.hv]; exact (List.getElem?_eq_some_iff.mp hj).1
  exact ⟨j, _, hj, List.getElem?_eq_getElem this⟩
theorem BOk.given (h : BOk l w ds nm vs) : givenW w l ds nm = none := by
  have e1 : decide (ds.length > w) = false := decide_eq_false (by have := h.hw; omega)
  have e2 : (srt (nm.map (·.1))).find? (fun n => !decide (n ∈ l.map (·.n))) = none := by
    refine List.find?_eq_none.mpr fun n hn => ?_
    obtain ⟨kv, hk, rfl⟩ := List.mem_map.mp ((srt_perm _).mem_iff.mp hn)
    obtain ⟨j, p, _, hp, e⟩ := h.hk kv hk
    have : kv.1 ∈ l.map (·.n) := by rw [e]; exact List.mem_map_of_mem (List.mem_of_getElem? hp)
    rw [decide_eq_true this]
    decide
  have e3 : ((l.map (·.n)).take ds.length).find? (fun n => (getS nm n).isSome) = none := by
    refine List.find?_eq_none.mpr fun n hn => ?_
    obtain ⟨j, hj⟩ := List.mem_iff_getElem?.mp hn
    have hjl : j < ds.length := by
      have := (List.getElem?_eq_some_iff.mp hj).1
      rw [List.length_take] at this
      omega
    rw [List.getElem?_take_of_lt hjl, List.getElem?_map] at hj
    obtain ⟨p, hp, rfl⟩ := Option.map_eq_some_iff.mp hj
    rw [h.no hp hjl]
    decide
  unfold givenW
  rw [e1, if_neg (by decide), e2]
  dsimp only
  rw [e3]
theorem BOk.bind (h : BOk l w ds nm vs) : bindW w l ds nm = none := by
  have e1 : l.find? (lackP (nm ++ posL l ds)) = none := by
    refine List.find?_eq_none.mpr fun p hp => ?_
    obtain ⟨j, v, h1, h2⟩ := h.at hp
    rw [lack_at h.hn h1]
    obtain ⟨_, _, h3⟩ := h.hg j p v h1 h2
    by_cases hj : ds.length ≤ j
    · rcases h3 hj with e | ⟨e, _, e2⟩
      · rw [e]; simp
      · rw [e2]; simp
    · rw [decide_eq_false (by omega)]; simp
  have e2 : l.find? (fun p => !hasSortD (valP (nm ++ posL l ds) p) p.s) = none := by
    refine List.find?_eq_none.mpr fun p hp => ?_
    obtain ⟨j, v, h1, h2⟩ := h.at hp
    rw [h.val h1 h2, (h.hg j p v h1 h2).1]
    decide
  unfold bindW
  rw [h.given]
  dsimp only
  rw [e1]
  dsimp only
  rw [e2]
theorem posL_call {l : List Pm} {f : Pm → PyData} : ∀ {vs : List PyData}, vs.length = l.length → (∀ (j : Nat) (p : Pm) (v : PyData), l[j]? = some p → vs[j]? = some v → f p = v) → (l.map fun p => (p.n, f p)) = posL l vs := by
  induction l with
  | nil => intro vs h _; cases vs <;> simp [posL] at h ⊢
  | cons p l ih =>
    intro vs h k
    cases vs with
    | nil => simp at h
    | cons v vs =>
      rw [posL_cons, List.map_cons, k 0 p v rfl rfl, ih (by simpa using h) fun j q u h1 h2 => k (j + 1) q u (by simpa using h1) (by simpa using h2)]
theorem BOk.call (h : BOk l w ds nm vs) : callL l (nm ++ posL l ds) = posL l vs := posL_call h.hv fun j p v h1 h2 => h.val h1 h2
theorem BOk.perm {mm : List (Str × PyData)} (h : BOk l w ds nm vs) (p : mm.Perm nm) (nd : (nm.map (·.1)).Nodup) : BOk l w ds mm vs :=
  ⟨h.hn, h.hw, h.hv, fun kv hk => h.hk kv (p.mem_iff.mp hk), fun j q v h1 h2 => by
    rw [← getS_perm p.symm nd]
    exact h.hg j q v h1 h2⟩
theorem BOk.whole (h : BOk l w ds nm vs) : BOk l w [] (posL l vs) vs := by
  refine ⟨h.hn, Nat.zero_le _, h.hv, fun kv hk => ?_, fun j p v h1 h2 => ⟨(h.hg j p v h1 h2).1, fun z => absurd z (by simp), fun _ => .inl ?_⟩⟩
  · have e : kv.1 ∈ (posL l vs).map (·.1) := List.mem_map_of_mem hk
    rw [posL_keys (by rw [h.hv]; exact Nat.le_refl _), h.hv] at e
    have e := List.mem_of_mem_take e
    obtain ⟨p, hp, e2⟩ := List.mem_map.mp e
    obtain ⟨j, hj⟩ := List.mem_iff_getElem?.mp hp
    exact ⟨j, p, by simp, hj, e2.symm⟩
  · rw [posL_get h.hn h1]; exact h2
theorem posL_nd (h : BOk l w ds nm vs) : ((posL l vs).map (·.1)).Nodup := by
  rw [posL_keys (by rw [h.hv]; exact Nat.le_refl _), h.hv]
  exact List.Nodup.sublist (List.take_sublist _ _) h.hn
theorem posL_vals {kv : Str × PyData} : ∀ {l : List Pm} {vs : List PyData}, kv ∈ posL l vs → kv.2 ∈ vs ∧ ∃ p ∈ l, kv.1 = p.n
  | [], _, h => by simp [posL] at h
  | _ :: _, [], h => by simp [posL] at h
  | p :: l, v :: vs, h => by
    rw [posL_cons] at h
    rcases List.mem_cons.mp h with rfl | h
    · exact ⟨List.mem_cons_self, p, List.mem_cons_self, rfl⟩
    · obtain ⟨h1, q, h2, h3⟩ := posL_vals h
      exact ⟨List.mem_cons_of_mem _ h1, q, List.mem_cons_of_mem _ h2, h3⟩
end
/-! ## how a right call is drawn, name by name -/
structure PIv (V : Str → PyData → Prop) (l : List Pm) (W i : Nat) (ds vs : List PyData) (nl : List (Str × PyData)) : Prop where
  hv : vs.length = i
  hd : ds = vs.take W
  hn : (nl.map (·.1)).Nodup
  hl : nl.length ≤ i
  hk : ∀ kv ∈ nl, ∃ j p, W ≤ j ∧ j < i ∧ l[j]? = some p ∧ kv.1 = p.n
  hg : ∀ j p v, l[j]? = some p → vs[j]? = some v → V p.s v ∧ (W ≤ j → getS nl p.n = some v ∨ (getS nl p.n = none ∧ p.v = v ∧ isNone p.v = false))
section
variable {V : Str → PyData → Prop} {l : List Pm} {W i : Nat} {ds vs : List PyData} {nl : List (Str × PyData)} {p : Pm} {v : PyData}
theorem PIv.nil : PIv V l W 0 [] [] [] := ⟨rfl, by simp, by simp, by simp, fun _ h => by simp at h, fun _ _ _ _ h => by simp at h⟩
theorem at_snoc {j : Nat} {u : PyData} (h : (vs ++ [v])[j]? = some u) : vs[j]? = some u ∨ (j = vs.length ∧ u = v) := by
  by_cases hj : j < vs.length
  · rw [List.getElem?_append_left hj] at h; exact .inl h
  · rw [List.getElem?_append_right (by omega)] at h
    have : j - vs.length = 0 := by
      have := (List.getElem?_eq_some_iff.mp h).1
      simp at this; omega
    rw [this] at h
    simp at h
    exact .inr ⟨by omega, h.symm⟩
theorem PIv.pos (h : PIv V l W i ds vs nl) (hi : i < W) (hp : l[i]? = some p) (hv : V p.s v) : PIv V l W (i + 1) (ds ++ [v]) (vs ++ [v]) nl := by
  refine ⟨by simp [h.hv], ?_, h.hn, Nat.le_succ_of_le h.hl, fun kv hk => ?_, fun j q u h1 h2 => ?_⟩
  · rw [h.hd, List.take_of_length_le (by rw [h.hv]; omega), List.take_of_length_le (by rw [List.length_append, h.hv]; simp; omega)]
  · obtain ⟨j, q, a, b, c⟩ := h.hk kv hk
    exact ⟨j, q, a, by omega, c⟩
  · rcases at_snoc h2 with h2 | ⟨e, rfl⟩
    · exact h.hg j q u h1 h2
    · rw [h.hv] at e
      subst e
      rw [hp] at h1
      cases h1
      exact ⟨hv, fun z => by omega⟩
theorem PIv.take (h : PIv V l W i ds vs nl) (hi : W ≤ i) : ds = (vs ++ [v]).take W := by
  rw [h.hd, List.take_append_of_le_length (by rw [h.hv]; exact hi)]
theorem PIv.fresh (h : PIv V l W i ds vs nl) (hn : (l.map (·.n)).Nodup) (hp : l[i]? = some p) : getS nl p.n = none := by
  cases e : getS nl p.n with
  | none => rfl
  | some d =>
    obtain ⟨j, q, _, b, c, e2⟩ := h.hk _ (getS_mem e)
    have := nd_at hn hp c e2
    omega
theorem PIv.nam (h : PIv V l W i ds vs nl) (hn : (l.map (·.n)).Nodup) (hi : W ≤ i) (hp : l[i]? = some p) (hv : V p.s v) : PIv V l W (i + 1) ds (vs ++ [v]) (nl ++ [(p.n, v)]) := by
  have hf := h.fresh hn hp
  refine ⟨by simp [h.hv], h.take hi, ?_, by simp; exact h.hl, fun kv hk => ?_, fun j q u h1 h2 => ?_⟩
  · rw [List.map_append]
    refine List.nodup_append.mpr ⟨h.hn, by simp, fun a ha b hb e => ?_⟩
    simp at hb
    have z := getS_some (nm := nl) (n := p.n)
    rw [hf] at z
    exact of_decide_eq_false z.symm (hb ▸ e ▸ ha)
  · rcases List.mem_append.mp hk with hk | hk
    · obtain ⟨j, q, a, b, c⟩ := h.hk kv hk
      exact ⟨j, q, a, by omega, c⟩
    · simp at hk
      subst hk
      exact ⟨i, p, hi, by omega, hp, rfl⟩
  · rcases at_snoc h2 with h2 | ⟨e, rfl⟩
    · obtain ⟨a, b⟩ := h.hg j q u h1 h2
      refine ⟨a, fun z => ?_⟩
      have hne : q.n ≠ p.n := fun e => by
        have := nd_at hn h1 hp e
        have := (List.getElem?_eq_some_iff.mp h2).1
        rw [h.hv] at this
        omega
      rw [getS_app, show getS [(p.n, v)] q.n = none from by rw [getS_cons, if_neg (Ne.symm hne)]; rfl]
      rcases b z with e | ⟨e, e2⟩
      · left; rw [e]; rfl
      · right; exact ⟨by rw [e]; rfl, e2⟩
    · rw [h.hv] at e
      subst e
      rw [hp] at h1
      cases h1
      refine ⟨hv, fun _ => .inl ?_⟩
      rw [getS_app, hf, getS_cons, if_pos rfl]
      rfl
theorem PIv.dfl (h : PIv V l W i ds vs nl) (hn : (l.map (·.n)).Nodup) (hi : W ≤ i) (hp : l[i]? = some p) (hv : V p.s p.v) (h0 : isNone p.v = false) : PIv V l W (i + 1) ds (vs ++ [p.v]) nl := by
  refine ⟨by simp [h.hv], h.take hi, h.hn, Nat.le_succ_of_le h.hl, fun kv hk => ?_, fun j q u h1 h2 => ?_⟩
  · obtain ⟨j, q, a, b, c⟩ := h.hk kv hk
    exact ⟨j, q, a, by omega, c⟩
  · rcases at_snoc h2 with h2 | ⟨e, rfl⟩
    · exact h.hg j q u h1 h2
    · rw [h.hv] at e
      subst e
      rw [hp] at h1
      cases h1
      exact ⟨hv, fun _ => .inr ⟨h.fresh hn hp, rfl, h0⟩⟩
theorem PIv.fin {w : Nat} (hs : ∀ s v, V s v → hasSortD v s = true) (h : PIv V l W l.length ds vs nl) (hn : (l.map (·.n)).Nodup) (hw : W ≤ w) (hl : W ≤ l.length) : BOk l w ds nl vs := by
  have el : ds.length = W := by rw [h.hd, List.length_take, h.hv]; omega
  refine ⟨hn, by omega, h.hv, fun kv hk => ?_, fun j p v h1 h2 => ?_⟩
  · obtain ⟨j, q, a, b, c⟩ := h.hk kv hk
    exact ⟨j, q, by omega, c⟩
  · obtain ⟨a, b⟩ := h.hg j p v h1 h2
    refine ⟨hs _ _ a, fun z => ?_, fun z => b (by omega)⟩
    rw [h.hd, List.getElem?_take_of_lt (by omega)]
    exact h2
theorem posL_snoc' : ∀ {l : List Pm} {vs : List PyData} {p : Pm} {v : PyData}, l[vs.length]? = some p → posL l (vs ++ [v]) = posL l vs ++ [(p.n, v)]
  | [], _, _, _, h => by simp at h
  | q :: l, [], p, v, h => by
    simp at h
    subst h
    cases l <;> simp [posL]
  | q :: l, u :: vs, p, v, h => by
    rw [List.cons_append, posL_cons, posL_cons, posL_snoc' (by simpa using h)]
    rfl
theorem val_fl {s : Str} {v : PyData} (h : valOk s v) : FlD v := by
  rcases h with ⟨_, w, rfl, _⟩ | ⟨_, k, rfl, _⟩
  · exact .inr ⟨w, rfl⟩
  · exact .inl ⟨k, rfl⟩
end
/-! ## the text of a list of pairs -/
theorem shown_prs : ∀ {nm : List (Str × PyData)}, (∀ kv ∈ nm, KOk kv.1 ∧ VG kv.2) → piled (PyData.shownAll (nm.map pairD)) ≤ 400 * nm.length ∧ PyData.showableAll (nm.map pairD) = true ∧ PyData.depthAll (nm.map pairD) ≤ 8
  | [], _ => ⟨by simp [PyData.shownAll, piled], by simp [PyData.showableAll], by simp [PyData.depthAll]⟩
  | (x, d) :: nm, h => by
    obtain ⟨h1, h2, h3⟩ := shown_prs (nm := nm) fun kv hk => h kv (List.mem_cons_of_mem _ hk)
    obtain ⟨kx, vd⟩ := h (x, d) List.mem_cons_self
    have l1 := len_repr kx.1 kx.2
    have l2 := vd.len
    have l3 := vd.dep
    have l4 := len_tuple (PyData.shownAll [.str x, d])
    have l5 : piled (PyData.shownAll [.str x, d]) ≤ 250 := by
      simp only [PyData.shownAll, piled_cons, PyData.shown] at *
      have : piled [] = 0 := rfl
      omega
    simp only [List.map_cons, pairD, PyData.shownAll, PyData.showableAll, PyData.depthAll, piled_cons, List.length_cons, PyData.shown, PyData.showable, PyData.depth] at *
    exact ⟨by omega, by simp [vd.shw, h2], by omega⟩
theorem prs_shown {nm : List (Str × PyData)} (h : ∀ kv ∈ nm, KOk kv.1 ∧ VG kv.2) (l : nm.length ≤ 100) : (PyData.list (nm.map pairD)).showable = true ∧ (PyData.list (nm.map pairD)).depth ≤ 60 ∧ (PyData.list (nm.map pairD)).shown.length ≤ 10000000 := by
  obtain ⟨a1, a2, a3⟩ := shown_prs h
  have c1 := len_list (PyData.shownAll (nm.map pairD))
  refine ⟨by simp [PyData.showable, a2], ?_, ?_⟩
  · simp only [PyData.depth]; omega
  · simp only [PyData.shown]; omega
end Ov
namespace Ov
open PySem PySem.Spec PyProof.Rows L2
/-! ## values of a sort, wide -/
def ValK (s : Str) (v : PyData) : Prop := (s = "word" ∧ ∃ w, v = .str w ∧ NameOk w) ∨ (s = "number" ∧ ∃ k, v = .int k ∧ -1000000 ≤ k ∧ k ≤ 1000000)
theorem valK_of {s : Str} {v : PyData} (h : valOk s v) : ValK s v := by
  rcases h with h | ⟨h, k, e, h1, h2⟩
  · exact .inl h
  · exact .inr ⟨h, k, e, by omega, by omega⟩
theorem valK_vg {s : Str} {v : PyData} (h : ValK s v) : VG v := by
  rcases h with ⟨_, w, rfl, hw⟩ | ⟨_, k, rfl, h1, h2⟩
  · exact vg_name hw
  · exact vg_int h1 h2
theorem valK_fl {s : Str} {v : PyData} (h : ValK s v) : FlD v := by
  rcases h with ⟨_, w, rfl, hw⟩ | ⟨_, k, rfl, h1, h2⟩
  · exact .inr ⟨w, rfl⟩
  · exact .inl ⟨k, rfl⟩
theorem valK_sort {s : Str} {v : PyData} (h : ValK s v) : hasSortD v s = true := by
  rcases h with ⟨rfl, w, rfl, hw⟩ | ⟨rfl, k, rfl, _⟩
  · exact val_sort (.inl ⟨rfl, w, rfl, hw⟩)
  · unfold hasSortD
    rw [if_pos rfl]
    rfl
theorem valK_plain {s : Str} {v : PyData} (h : ValK s v) : plainD v = true := by
  rcases h with ⟨_, w, rfl, hw⟩ | ⟨_, k, rfl, _⟩
  · simp only [plainD, List.all_eq_true]
    intro c hc
    exact decide_eq_true (hw.2.2 c hc)
  · rfl
/-! ## repr of what is no container -/
def rReprS : List V → Hp → VK → Prop := fun xs H Q => (xs = [.non] ∧ Q (.str "None") H) ∨ (∃ i, xs = [.int i] ∧ i.natAbs.log2 < 1920 ∧ Q (.str (toString i)) H) ∨ ∃ x, xs = [.str x] ∧ (reprText x).length ≤ sizeLine ∧ Q (.str (reprText x)) H
theorem call_reprS {X : Cx} : CallR X (.builtin "repr") rReprS := by
  intro pins s σ H xs us Q I r h
  rcases h with ⟨rfl, q⟩ | ⟨i, rfl, hz, q⟩ | ⟨x, rfl, hz, q⟩
  · cases r with
    | cons r1 r2 =>
      cases r2
      cases r1
      exact PySem.P.repr_of_none ⟨.str _, H, I.tok _, ⟨_, rfl⟩, q⟩
  · obtain ⟨u, rfl, t, rfl⟩ := vals1 r
    exact PySem.P.repr_of_int hz ⟨.str _, H, I.tok _, ⟨_, rfl⟩, q⟩
  · obtain ⟨u, rfl, t, rfl⟩ := vals1 r
    exact PySem.P.repr_of_str (hsz := hz) ⟨.str _, H, I.tok _, ⟨_, rfl⟩, q⟩
section
variable {K : PySem.W.Frag} {S : Sto} {H : Hp} {P : Po} {δ : Dl} {td ty : TE}
theorem wc_reprS {d : PyData} (f : d = .none ∨ FlD d) (h1 : d.showable = true) (h4 : d.shown.length ≤ 10000000) (p : P (.dat (.str d.shown)) S) : WC K rReprS [.dat d] S P := fun xs H Q rs ra k => by
  cases ra with
  | cons r1 r2 =>
    cases r2
    rcases f with rfl | ⟨i, rfl⟩ | ⟨x, rfl⟩
    · cases r1
      refine .inl ⟨rfl, fin_d rs k (Dq.str _) ?_⟩
      have : PyData.none.shown = Str.ofString "None" := by simp only [PyData.shown]
      rw [← this]; exact p
    · cases r1
      refine .inr (.inl ⟨i, rfl, by simpa [PyData.showable] using h1, fin_d rs k (Dq.str _) ?_⟩)
      simp only [PyData.shown] at p
      exact p
    · cases r1
      refine .inr (.inr ⟨x, rfl, by simp only [PyData.shown] at h4; exact Nat.le_trans h4 (by decide), fin_d rs k (Dq.str _) ?_⟩)
      simp only [PyData.shown] at p
      exact p
theorem we_dgetD (h : Ov.WE K td δ S fun a S1 => Ov.WE K ty δ S1 fun b S2 => ∃ nm n d, Dk S2 a nm ∧ b = .dat (.str n) ∧ getS nm n = some d ∧ P (.dat d) S2) : Ov.WE K (tDGet td ty) δ S P := fun σ H Q rs s kk =>
  h σ H _ rs s fun x H1 a S1 g1 r1 w => w σ H1 _ g1.rs (s.go g1) fun y H2 b S2 g2 r2 ⟨nm, n, d, e1, e2, e3, p⟩ => by
    subst e2
    obtain ⟨q, vs, rfl, q1, q2⟩ := e1.at_ g2.rs (r1.go g2)
    have ev := valA_kv (n := n) (nm := nm)
    rw [e3] at ev
    obtain ⟨v, v1, v2⟩ := q2.val ev
    have := ra_key (k := .inr n) r2
    subst this
    refine ⟨q, v, rfl, ?_, kk v H2 (.dat d) S2 (g1.trans g2) v2 p⟩
    rw [← v1]
    exact DGet.k q1
/-! ## a, b = a list -/
theorem wg_lstO {n : Nat} {gs : TGs} {q : Addr} {as : List AV} {P : Dl → Sto → Prop} (hq : S q = some (.lst as)) (e : as.length = n) (h : WGs K gs as δ S P) : WG K (gLst K n gs) (.own q) δ S P := fun v σ H Q rs s r k => by
  cases r
  obtain ⟨xs, q1, q2⟩ := rs q _ hq
  exact ⟨_, _, rfl, SqL.of q1, by rw [q2.len]; exact e, h _ σ H Q rs s q2 k⟩
end
theorem pg_lstK {X : Cx} {pos : Pos} (K : PySem.W.Frag) {es : List Expr} {k : Nat} {t : TGs} {n : Nat} (hc : X.calm = true) (hg : PGs X es t) (hn : (assignEach es X.env).length = n := by rfl) (hst : (assignEach es X.env).findIdx? (·.1) = none := by rfl) (h : X.K = K := by rfl) : PG X (.Tuple es k pos) (gLst K n t) := h ▸ pg_lst hc hg hn hst
theorem putS_last {nm : List (Str × PyData)} {n : Str} {u v : PyData} (h : getS nm n = none) : putS (nm ++ [(n, u)]) n v = nm ++ [(n, v)] := by
  have hn : n ∉ nm.map (·.1) := fun z => by
    have e := getS_some (nm := nm) (n := n)
    rw [h, decide_eq_true z] at e
    cases e
  unfold putS
  rw [if_pos (by simp), List.map_append]
  refine congr (congrArg _ ?_) (by simp)
  refine (List.map_congr_left fun kv hk => ?_).trans (List.map_id _)
  rw [if_neg (fun e : kv.1 = n => hn (by rw [← e]; exact List.mem_map_of_mem hk))]
  rfl
end Ov
namespace Hk
open PySem PySem.Spec PyProof.Rows L2 Ov
def topS (i : Nat) : Stmt := PySem.Challenge.pw_hookrow_k07_whole_calls_passed_in_any_wa.main.body.getD i (.Pass ⟨0, 0, 0, 0⟩)
structure Txt (K : PySem.W.Frag) (mg : Str → Option Value) : Prop where
  b_abs : mg "abs" = none
  b_any : mg "any" = none
  b_bool : mg "bool" = none
  b_dict : mg "dict" = none
  b_enumerate : mg "enumerate" = none
  b_int : mg "int" = none
  b_isinstance : mg "isinstance" = none
  b_len : mg "len" = none
  b_list : mg "list" = none
  b_max : mg "max" = none
  b_range : mg "range" = none
  b_repr : mg "repr" = none
  b_sorted : mg "sorted" = none
  b_str : mg "str" = none
  b_tuple : mg "tuple" = none
end Hk
namespace Hk
open PySem PySem.Spec PyProof.Rows L2 Ov
abbrev s_take : Stmt := topS 24
theorem sc_take : FnScope ["_law_box_here", "_law_many", "_law_digit", "_law_one"] ["_law_box_here", "_law_many"] (defScope s_take) := ⟨rfl, rfl, rfl, by decide +kernel, rfl, by decide +kernel, by decide +kernel⟩
abbrev s_pick : Stmt := topS 25
theorem sc_pick : FnScope ["_law_box_here", "_law_items"] ["_law_box_here", "_law_items"] (defScope s_pick) := ⟨rfl, rfl, rfl, by decide +kernel, rfl, by decide +kernel, by decide +kernel⟩
abbrev s_mixed : Stmt := topS 26
theorem sc_mixed : FnScope ["_law_box_here", "_law_items", "_law_left", "_law_found", "_law_turn"] ["_law_box_here", "_law_items"] (defScope s_mixed) := ⟨rfl, rfl, rfl, by decide +kernel, rfl, by decide +kernel, by decide +kernel⟩
abbrev s_box : Stmt := topS 23
theorem sc_box : FnScope ["_law_script", "_law_base", "_law_seed", "_law_cell", "_law_great"] ["_law_script", "_law_base"] (defScope s_box) := ⟨rfl, rfl, rfl, by decide +kernel, rfl, by decide +kernel, by decide +kernel⟩
local macro_rules | `(tactic| walk_at "w") => `(tactic| with_reducible first
  | refine iteT ?_ | refine iteF ?_
  | refine ws_seq ?_ | refine ws_if ?_ | refine ws_set ?_ | refine ws_ret ?_ | refine ws_drop ?_ | refine ws_next ?_ | refine ws_dputS ?_ | refine we_andT ?_ | refine we_orT ?_
  | refine wt_test ?_ | refine wt_and ?_ | refine wt_or ?_ | refine wt_not ?_ | refine wt_truK ?_ | refine wt_B ?_
  | refine we_op ?_ | refine we_cb ?_ | refine we_dgetS ?_ | refine wa_cons ?_ | refine wa_nil ?_ | refine we_var rfl ?_ | refine we_int ?_ | refine we_str ?_ | refine we_bl ?_ | refine we_non ?_ | refine we_ty ?_
  | refine w2_addI ?_ | refine w2_eqS ?_ | refine w2_neS ?_ | refine w2_eqI ?_ | refine w2_neI ?_ | refine w2_sub ?_ | refine w2_I0 ?_ | refine we_call ?_ | refine we_un ?_ | refine w1_neg ?_ | refine we_sl ?_ | refine wo_none ?_ | refine wo_some ?_ | refine we_notT ?_ | refine we_if ?_ | refine we_join ?_ | refine we_split ?_ | refine we_tup ?_ | refine wt_yes ?_ | refine ⟨_, rfl, ?_⟩)
local macro_rules | `(tactic| walk_at "v") => `(tactic| with_reducible first
  | refine iteT ?_ | refine iteF ?_
  | refine ws_seq ?_ | refine ws_par ?_ | refine ws_set ?_ | refine ws_ret ?_ | refine ws_drop ?_ | refine ws_next ?_ | refine ws_dputS ?_ | refine we_andT ?_ | refine we_orT ?_
  | refine wt_test ?_ | refine wt_and ?_ | refine wt_or ?_ | refine wt_not ?_ | refine wt_truK ?_ | refine wt_B ?_
  | refine we_op ?_ | refine we_cb ?_ | refine we_dgetS ?_ | refine wa_cons ?_ | refine wa_nil ?_ | refine we_var rfl ?_ | refine we_int ?_ | refine we_str ?_ | refine we_bl ?_ | refine we_non ?_ | refine we_ty ?_
  | refine w2_addI ?_ | refine w2_eqS ?_ | refine w2_neS ?_ | refine w2_eqI ?_ | refine w2_neI ?_ | refine w2_sub ?_ | refine w2_I0 ?_ | refine we_call ?_ | refine we_un ?_ | refine w1_neg ?_ | refine we_sl ?_ | refine wo_none ?_ | refine wo_some ?_ | refine we_notT ?_ | refine we_join ?_ | refine we_split ?_ | refine we_tup ?_ | refine wt_yes ?_ | refine ⟨_, rfl, ?_⟩)
local macro_rules | `(tactic| walk_at "s") => `(tactic| simp only [nox_K, cx_K, startA, List.map_cons, List.map_nil, List.length_cons, List.length_nil, List.cons_append, List.nil_append, Nat.reduceAdd, Nat.reduceSub, List.reduceReplicate])
local macro_rules | `(tactic| walk_at "n") => `(tactic| (try dsimp only [wipeD, List.set_cons_zero, List.set_cons_succ]))
local macro_rules | `(tactic| walk_at "bg") => `(tactic| ((repeat walk_at "w"); refine ⟨_, _, _, _, rfl, rfl, by first | assumption | exact set_same, by first | exact box_great | exact box_now | exact box_seed | exact box_turn | exact wld_tests | exact wld_params | exact wld_plus | exact wld_gives, ?_⟩; (repeat walk_at "w")))
local macro_rules | `(tactic| walk_at "bp") => `(tactic| ((repeat walk_at "w"); refine ⟨_, _, _, rfl, rfl, by first | assumption | exact set_same, by first | exact box_len | exact wld_len, ?_⟩; first | rw [box_now_put] | rw [box_seed_put] | rw [box_turn_put] | rw [wld_tests_put] | rw [wld_plus_put]))
local macro_rules | `(tactic| walk_at "t") => `(tactic| first | refine ⟨_, dc dn, dl rfl, ?_⟩ | refine ⟨_, dc (dc dn), dl rfl, ?_⟩ | refine ⟨_, dc (dc (dc dn)), dl rfl, ?_⟩ | refine ⟨_, dc (dc (dc (dc dn))), dl rfl, ?_⟩ | refine ⟨_, dc (dc (dc (dc (dc dn)))), dl rfl, ?_⟩)

section
variable {P : Program} {w : World} {K : PySem.W.Frag} {mg : Str → Option Value} {base : Heap}
theorem ok_take {f : Addr} {fd : FuncData} (T : Txt K mg) (F : Df K mg "_law_take" ["_law_box_here", "_law_many"] s_take f fd) : Cal P w K mg base 1 "_law_take" (SpA K 2 spTake) := by
  have nd := sc_take.nd
  refine F.cal sc_take (fun vs H Q E h => h.1) (fun cdv A outer s H vs Q E hr h => ?_)
  have hu := hu_of hr
  refine ⟨_, (pss_cons (ps_if (PW.pt (pw_and (pt_cmpR (op_eqK K hr.units) (pe_dget hu (pv 0) pe_str (fun _ _ => rfl)) pe_int (nomark _)) (pw_and1 (pt_cmpR (op_gt) (pe_callB (call_lenK K) (by rfl) T.b_len (by decide +kernel) (pa_cons (pe_dget hu (pv 0) pe_str (fun _ _ => rfl)) pa_nil)) pe_int (nomark _)))))
 (pss_one (ps_dput hu (pv 0) pe_str (pe_bm0K K PySem.F.plainAttrs_list PySem.F.slot_list_pop PySem.F.type_list_pop mt_pop (pe_dget hu (pv 0) pe_str (fun _ _ => rfl))) rfl))
 pss_nil)
 (pss_cons (ps_if (pt_cmpR (op_gt) (pe_dget hu (pv 0) pe_str (fun _ _ => rfl)) pe_int (nomark _))
 (pss_cons (ps_set (i := 2) nd rfl (Or.inl rfl) (pe_op op_modN (pe_dget hu (pv 0) pe_str (fun _ _ => rfl)) (pv 1)))
 (pss_cons (ps_dput hu (pv 0) pe_str (pe_op op_fdivN (pe_dget hu (pv 0) pe_str (fun _ _ => rfl)) (pv 1)) rfl)
 (pss_one (ps_ret (pv 2)))))
 pss_nil)
 (pss_cons (ps_dput hu (pv 0) pe_str (pe_op (op_addK K) (pe_dget hu (pv 0) pe_str (fun _ _ => rfl)) pe_int) rfl)
 (pss_cons (ps_set (i := 3) nd rfl (Or.inl rfl) (pe_op op_modN (pe_op op_mulA (pe_op op_modN (pe_op (op_addK K) (pe_dget hu (pv 0) pe_str (fun _ _ => rfl)) (pe_op op_mulA pe_int (pe_dget hu (pv 0) pe_str (fun _ _ => rfl)))) pe_int) pe_int) pe_int))
 (pss_cons (ps_dput hu (pv 0) pe_str (pe_op (op_addK K) (pe_op op_modN (pe_op (op_addK K) (pv 3) (pe_op op_mulA pe_int (pe_dget hu (pv 0) pe_str (fun _ _ => rfl)))) pe_int) pe_int) rfl)
 (pss_one (ps_ret (pe_op op_modN (pe_op op_fdivN (pe_op (op_addK K) (pe_op op_mulA (pv 3) pe_int) (pe_dget hu (pv 0) pe_str (fun _ _ => rfl))) pe_int) (pv 1))))))))), body_ok h (by decide) ?_⟩
  rintro as S P' - ⟨d, g, m, rfl, hm0, hm1, hB, k⟩
  obtain ⟨hne, ⟨now, seed, turn, hd⟩, ⟨ns, hg⟩⟩ := id hB
  walk_at "s"
  refine ws_cut (fun δ' S' => δ' = [some (.own d), some (.dat (.int m)), none, none] ∧ Box d g S' ∧ Only2 d g S S') ?_ ?_
  · walk_at "bg"
    repeat walk_at "w"
    refine ite2 (fun e0 => ?_) (fun e0 => ?_)
    · walk_at "bg"
      refine wc_len (.inl ⟨_, nw_own hg, rfl⟩) ?_
      repeat walk_at "w"
      refine ite2 (fun e1 => ?_) (fun e1 => ?_)
      · have hpos : 0 < ns.length := by
          have := of_decide_eq_true e1
          simp at this
          omega
        obtain ⟨z, n0, e2⟩ : ∃ z n0, ns = n0 ++ [z] := by
          have hne : ns ≠ [] := fun e => by rw [e] at hpos; simp at hpos
          exact ⟨ns.getLast hne, ns.dropLast, (List.dropLast_concat_getLast hne).symm⟩
        subst e2
        repeat walk_at "w"
        refine we_pop ?_
        walk_at "bg"
        refine ⟨g, dats (n0.map PyData.int), .dat (.int z), rfl, by rw [hg, List.map_append]; exact congrArg (fun l => some (AO.lst l)) (dats_map _ _), ?_⟩
        have hd' := (set_ne (o := .lst (dats (n0.map PyData.int))) hne).trans hd
        walk_at "bp"
        exact ⟨rfl, ⟨hne, ⟨z, seed, turn, set_same⟩, ⟨n0, (set_ne hne.symm).trans set_same⟩⟩, ((Only2.refl S).setG).setD⟩
      · repeat walk_at "w"
        exact ⟨rfl, hB, Only2.refl S⟩
    · repeat walk_at "w"
      exact ⟨rfl, hB, Only2.refl S⟩
  · rintro δ' S1 ⟨rfl, hB1, hO1⟩
    obtain ⟨_, ⟨now, seed, turn, hd⟩, ⟨ns, hg⟩⟩ := id hB1
    walk_at "bg"
    refine ite2 (fun e0 => ?_) (fun e0 => ?_)
    · walk_at "bg"
      refine w2_mod hm0 ?_
      walk_at "bg"
      refine w2_fdiv hm0 (by omega) ?_
      walk_at "bp"
      repeat walk_at "w"
      exact k _ _ (Int.emod_nonneg _ (by omega)) (Int.emod_lt_of_pos _ hm0) ⟨hne, ⟨_, seed, turn, set_same⟩, ⟨ns, (set_ne hne.symm).trans hg⟩⟩ hO1.setD
    · walk_at "bg"
      walk_at "bp"
      walk_at "bg"
      walk_at "bg"
      refine w2_mulI (.inl (by decide)) ?_
      repeat walk_at "w"
      refine w2_mod (by decide) ?_
      repeat walk_at "w"
      refine w2_mulI (.inr (by decide)) ?_
      repeat walk_at "w"
      refine w2_mod (by decide) ?_
      repeat walk_at "w"
      generalize ez : ((seed + 69623 * (turn + 1)) % 2147483647 * 16807 % 2147483647 : Int) = z1
      walk_at "bg"
      refine w2_mulI (.inl (by decide)) ?_
      repeat walk_at "w"
      refine w2_mod (by decide) ?_
      walk_at "bp"
      rw [set_set]
      repeat walk_at "w"
      refine w2_mulI (.inr (by decide)) ?_
      walk_at "bg"
      refine w2_fdiv (by decide) (by decide) ?_
      repeat walk_at "w"
      refine w2_mod hm0 ?_
      exact k _ _ (Int.emod_nonneg _ (by omega)) (Int.emod_lt_of_pos _ hm0) ⟨hne, ⟨now, _, turn + 1, set_same⟩, ⟨ns, (set_ne hne.symm).trans hg⟩⟩ hO1.setD
theorem ok_pick {f : Addr} {fd : FuncData} (T : Txt K mg) (F : Df K mg "_law_pick" ["_law_box_here", "_law_items"] s_pick f fd) (c_take : Cal P w K mg base 1 "_law_take" (SpA K 2 spTake)) : Cal P w K mg base 2 "_law_pick" (SpA K 2 spPick) := by
  have nd := sc_pick.nd
  refine F.cal sc_pick (fun vs H Q E h => h.1) (fun cdv A outer s H vs Q E hr h => ?_)
  have hu := hu_of hr
  refine ⟨_, (pss_one (ps_ret (pe_ix (ix_seqK K) (pv 1) (pe_c c_take hr (by omega) rfl (pa_cons (pv 0) (pa_cons (pe_callB (call_lenK K) (by rfl) T.b_len (by decide +kernel) (pa_cons (pv 1) pa_nil)) pa_nil))) (fun _ _ => rfl)))), body_ok h (by decide) ?_⟩
  rintro as S P' - ⟨d, g, ds, rfl, hl, hl2, hB, k⟩
  walk_at "s"
  repeat walk_at "w"
  refine wc_len (.inl ⟨_, nw_dat, rfl⟩) ?_
  repeat walk_at "w"
  refine ⟨rfl, d, g, _, rfl, by omega, by omega, hB, fun r S1 h0 h1 hB1 hO1 => ?_⟩
  have hr : r.toNat < ds.length := by omega
  have e : r = ((r.toNat : Nat) : Int) := by omega
  rw [e]
  exact w2_ixL nw_dat (List.getElem?_eq_getElem hr) (k r.toNat _ S1 (List.getElem?_eq_getElem hr) hB1 hO1)
theorem ok_mixed {f : Addr} {fd : FuncData} (T : Txt K mg) (F : Df K mg "_law_mixed" ["_law_box_here", "_law_items"] s_mixed f fd) (c_take : Cal P w K mg base 1 "_law_take" (SpA K 2 spTake)) : Cal P w K mg base 2 "_law_mixed" (SpA K 2 spMixed) := by
  have nd := sc_mixed.nd
  refine F.cal sc_mixed (fun vs H Q E h => h.1) (fun cdv A outer s H vs Q E hr h => ?_)
  have hu := hu_of hr
  refine ⟨_, (pss_cons (ps_par (i := 2) (j := 3) (by rfl) nd rfl rfl (by decide) rfl rfl (pa_cons (pe_callTy (call_listK K hr.hd) (by rfl) T.b_list (by decide +kernel) (pa_cons (pv 1) pa_nil)) (pa_cons (pe_lst pa_nil) pa_nil)) (by rfl))
 (pss_cons (ps_for PassesOwn.never rfl (pi_range1 (by rfl) T.b_range (pa_cons (pe_callB (call_lenK K) (by rfl) T.b_len (by decide +kernel) (pa_cons (pv 2) pa_nil)) pa_nil)) (pg_name (i := 4) nd rfl (Or.inl rfl))
 (pss_one (ps_expr (pe_bmK K PySem.F.plainAttrs_list PySem.F.slot_list_append PySem.F.type_list_append mt_append (pv 3) (pa_cons (pe_bmK K PySem.F.plainAttrs_list PySem.F.slot_list_pop PySem.F.type_list_pop mt_popAt (pv 2) (pa_cons (pe_c c_take hr (by omega) rfl (pa_cons (pv 0) (pa_cons (pe_callB (call_lenK K) (by rfl) T.b_len (by decide +kernel) (pa_cons (pv 2) pa_nil)) pa_nil))) pa_nil)) pa_nil)))))
 (pss_one (ps_ret (pv 3))))), body_ok h (by decide) ?_⟩
  rintro as S P' - ⟨d, g, b, ds, rfl, hi, hlen, hB, k⟩
  walk_at "s"
  -- left, found = list(items), []
  have lst : ∀ {P : Po}, (∀ q, S q = none → P (.own q) (S.set q (.lst (dats ds)))) → WC K (rListA K) [b] S P := fun p => by
    rcases hi with rfl | ⟨z, rfl, hz, rfl⟩
    · exact wc_listO (.inl nw_dat) p
    · exact wc_listSO (by omega) p
  repeat walk_at "w"
  refine ws_par ?_
  repeat walk_at "w"
  refine lst fun pl hpl => ?_
  have npl := hB.ne_new hpl
  have hB1 := hB.set_ne' (o := .lst (dats ds)) npl.1 npl.2
  repeat walk_at "w"
  refine we_lstO ?_
  repeat walk_at "w"
  refine ⟨by decide, fun pf hpf => ?_⟩
  have npf := hB1.ne_new hpf
  have hB2 := hB1.set_ne' (o := .lst []) npf.1 npf.2
  repeat walk_at "w"
  refine ⟨_, _, rfl, ?_⟩
  have nlf : pl ≠ pf := fun e => by
    rw [← e, set_same] at hpf
    cases hpf
  repeat walk_at "w"
  walk_at "n"
  refine ws_for (wi_range ?_)
  repeat walk_at "w"
  refine wc_len (.inl ⟨_, nw_own ((set_ne nlf).trans set_same), rfl⟩) ?_
  repeat walk_at "w"
  refine ⟨by omega, fun i δ' S' => ∃ les fes, δ' = [some (.own d), some b, some (.own pl), some (.own pf), δ'.getD 4 none] ∧ S' pl = some (.lst (dats les)) ∧ S' pf = some (.lst (dats fes)) ∧ (fes ++ les).Perm ds ∧ fes.length = i ∧ Box d g S' ∧ ∀ a, a ≠ d → a ≠ g → a ≠ pl → a ≠ pf → S' a = S a, ?_, ?_, ?_⟩
  · exact ⟨ds, [], rfl, (set_ne nlf).trans set_same, set_same, List.Perm.refl _, rfl, hB2, fun a _ _ h3 h4 => (set_ne h4).trans (set_ne h3)⟩
  · rintro i δ' S1 hi ⟨les, fes, eδ, e1, e2, hp, hf, hB', hO⟩
    have hlp := hp.length_eq
    rw [List.length_append] at hlp
    rw [eδ]
    refine wg_name ?_
    walk_at "n"
    repeat walk_at "w"
    refine we_append ?_
    repeat walk_at "w"
    refine ⟨⟨_, e2⟩, ?_⟩
    repeat walk_at "w"
    refine we_popAt ?_
    repeat walk_at "w"
    refine ⟨⟨_, e1⟩, ?_⟩
    repeat walk_at "w"
    refine wc_len (.inl ⟨_, nw_own e1, rfl⟩) ?_
    repeat walk_at "w"
    refine ⟨rfl, d, g, _, rfl, by omega, by omega, hB', fun r S2 h0 h1 hB3 hO3 => ?_⟩
    have hr : r.toNat < les.length := by omega
    have e : r = ((r.toNat : Nat) : Int) := by omega
    rw [e]
    repeat walk_at "w"
    have e1' := (box_keep hO3 npl).trans e1
    have e2' := (box_keep hO3 npf).trans e2
    refine ⟨r.toNat, dats les, .dat (les[r.toNat]), rfl, e1', by simp [dats]; omega, dats_get (List.getElem?_eq_getElem hr), ?_⟩
    repeat walk_at "w"
    refine ⟨_, _, rfl, (set_ne nlf.symm).trans e2', by simp [dats]; omega, ?_⟩
    repeat walk_at "w"
    refine ⟨les.eraseIdx r.toNat, fes ++ [les[r.toNat]], rfl, ?_, ?_, ?_, by simp [hf], ?_, ?_⟩
    · rw [set_ne nlf, set_same, dats_erase]
    · rw [set_same, dats_map]
    · refine List.Perm.trans ?_ hp
      rw [List.append_assoc]
      refine List.Perm.append_left _ ?_
      have := perm_erase les r.toNat hr
      simpa using this
    · exact (hB3.set_ne' npl.1 npl.2).set_ne' npf.1 npf.2
    · intro a h1 h2 h3 h4
      rw [set_ne h4, set_ne h3]
      exact (hO3 a h1 h2).trans (hO a h1 h2 h3 h4)
  · rintro δ' S1 ⟨les, fes, eδ, e1, e2, hp, hf, hB', hO⟩
    rw [eδ]
    have hlp := hp.length_eq
    rw [List.length_append] at hlp
    have hle : les = [] := List.length_eq_zero_iff.mp (by omega)
    subst hle
    refine ws_freeze 3 rfl e2 (ws_forget pl ?_)
    walk_at "n"
    repeat walk_at "w"
    rw [List.append_nil] at hp
    refine k _ _ hp ((hB'.del_ne' npf.1 npf.2).del_ne' npl.1 npl.2) fun a h1 h2 => ?_
    by_cases h3 : a = pl
    · rw [h3, Ov.del_same, hpl]
    · rw [Ov.del_ne h3]
      by_cases h4 : a = pf
      · rw [h4, Ov.del_same]
        rw [set_ne nlf.symm] at hpf
        exact hpf.symm
      · rw [Ov.del_ne h4]
        exact hO a h1 h2 h3 h4
theorem ok_box {f : Addr} {fd : FuncData} (T : Txt K mg) (F : Df K mg "_law_box" ["_law_script", "_law_base"] s_box f fd) : Cal P w K mg base 1 "_law_box" (SpA K 2 spBox) := by
  have nd := sc_box.nd
  refine F.cal sc_box (fun vs H Q E h => h.1) (fun cdv A outer s H vs Q E hr h => ?_)
  have hu := hu_of hr
  refine ⟨_, (pss_cons (ps_set (i := 2) nd rfl (Or.inl rfl) (pe_op (op_addK K) pe_int (pe_op op_mulA pe_int (pv 1))))
 (pss_cons (ps_for PassesOwn.never rfl (pi_listK K (pe_slice (sl_anyK K) (pv 0) po_none (po_some pe_int))) (pg_name (i := 3) nd rfl (Or.inl rfl))
 (pss_one (ps_set (i := 2) nd rfl (Or.inl rfl) (pe_op op_modN (pe_op (op_addK K) (pe_op (op_addK K) (pe_op op_mulA (pv 2) pe_int) (pe_op op_modN (pe_callB call_abs (by rfl) T.b_abs (by decide +kernel) (pa_cons (pv 3) pa_nil)) pe_int)) pe_int) pe_int))))
 (pss_cons (ps_setLc (i := 4) (own := [("_law_cell", 3)]) (g := gName 3) (by rfl) nd rfl rfl (sw_true rfl rfl rfl (by decide +kernel)) (pi_listK K (pe_slice (sl_anyK K) (pv 0) (po_some (pv 1)) (po_some pe_int))) (blkOk_by (own := [("_law_cell", 3)]) (N := ["_law_script", "_law_base", "_law_seed", "_law_cell", "_law_great"]) (sc := defScope s_box) (by decide +kernel)) (fun _ _ _ _ _ => (pg_name (i := 3) nd rfl (Or.inl rfl))) (fun _ _ _ _ _ => (pts_one (pt_cmpR (op_ge) (pe_callB call_abs (by rfl) T.b_abs (by decide +kernel) (pa_cons (pv 3) pa_nil)) (pe_op op_pow pe_int pe_int) (nomark _)))) (fun _ _ _ _ _ => (pe_callB call_abs (by rfl) T.b_abs (by decide +kernel) (pa_cons (pv 3) pa_nil))))
 (pss_one (ps_ret (pe_disp (pps_cons pe_str (pe_revK K (pv 4)) (pps_cons pe_str pe_int (pps_cons pe_str (pe_op (op_addK K) (pv 2) pe_int) (pps_cons pe_str pe_int pps_nil)))) (by rfl) (by rfl) (fun z => by cases z) (by decide))))))), body_ok h (by decide) ?_⟩
  rintro as S P' - ⟨ns, z, rfl, hl, hz, k⟩
  walk_at "s"
  repeat walk_at "w"
  refine w2_mulI (.inl (by decide)) ?_
  repeat walk_at "w"
  walk_at "n"
  refine ws_for (wi_list ?_)
  repeat walk_at "w"
  refine wl_scr ?_
  obtain ⟨m1, e1, hm1⟩ := cut_map PyData.int ns none (some 50)
  rw [e1]
  refine ⟨_, rfl, fun i δ' S' => S' = S ∧ ∃ x c, δ' = [some (.scr ns), some (.dat (.int z)), some (.dat (.int x)), c, none], ?_, ?_, ?_⟩
  · exact ⟨rfl, _, _, rfl⟩
  · rintro i δ' S' hi ⟨rfl, x, c, rfl⟩
    rw [List.length_map] at hi
    have hx := getD_map PyData.int m1 i hi
    simp only [hx]
    refine wg_name ?_
    walk_at "n"
    repeat walk_at "w"
    refine w2_mulI (.inr (by decide)) ?_
    repeat walk_at "w"
    refine wc_abs ?_
    repeat walk_at "w"
    refine w2_mod (by decide) ?_
    repeat walk_at "w"
    refine w2_mod (by decide) ?_
    exact ⟨rfl, _, _, rfl⟩
  · rintro δ' S0 ⟨rfl, x, c, rfl⟩
    repeat walk_at "w"
    refine we_lc (wip_name (by decide)) (wi_list ?_)
    repeat walk_at "w"
    refine wl_scr ?_
    obtain ⟨m2, e2, hm2⟩ := cut_map PyData.int ns (some z) (some 50)
    rw [e2]
    refine ⟨_, rfl, by rw [List.length_map]; omega, fun D hD => ⟨fun i acc S' => S' = S'.set D (.lst (dats acc)) ∧ (∀ a, a ≠ D → S' a = S0 a) ∧ ∃ l : List Int, acc = l.map PyData.int, ?_, ?_, ?_⟩⟩
    · exact ⟨set_set.symm, fun a h => set_ne h, [], rfl⟩
    · rintro i acc S' hi hacc hD' ⟨hS, hO, l, rfl⟩
      rw [List.length_map] at hi
      have hx := getD_map PyData.int m2 i hi
      simp only [hx]
      refine wg_name ?_
      walk_at "n"
      repeat walk_at "w"
      refine wc_abs ?_
      repeat walk_at "w"
      refine w2_pow (by decide) ?_
      repeat walk_at "w"
      refine ite2 (fun h0 => ?_) (fun h0 => ?_)
      · repeat walk_at "w"
        refine wc_abs ?_
        refine ⟨_, rfl, hD', set_set.symm, fun a h => (set_ne h).trans (hO a h), l ++ [if m2[i] < 0 then -m2[i] else m2[i]], by simp⟩
      · exact ⟨hD', hS, hO, l, rfl⟩
    · rintro acc S' hacc hD' ⟨hS, hO, l, rfl⟩
      have hS2 : S'.del D = S0 := by
        funext a
        by_cases h : a = D
        · rw [h, Ov.del_same, hD]
        · rw [Ov.del_ne h]
          exact hO a h
      rw [hS2]
      walk_at "n"
      repeat walk_at "w"
      refine we_disp fun d hd => ?_
      refine wp_cons (.inr "great") ?_
      repeat walk_at "w"
      refine ⟨rfl, ?_⟩
      refine we_revO ?_
      repeat walk_at "w"
      refine ⟨_, nw_dat, fun g hg => ?_⟩
      refine wp_cons (.inr "now") ?_
      repeat walk_at "w"
      refine ⟨rfl, ?_⟩
      repeat walk_at "w"
      refine wp_cons (.inr "seed") ?_
      repeat walk_at "w"
      refine ⟨rfl, ?_⟩
      repeat walk_at "w"
      refine wp_cons (.inr "turn") ?_
      repeat walk_at "w"
      refine ⟨rfl, ?_⟩
      repeat walk_at "w"
      refine wp_nil ?_
      have hne : d ≠ g := fun e => by
        rw [← e, set_same] at hg
        cases hg
      have hg' : S0 g = none := by
        rw [set_ne hne.symm] at hg
        exact hg
      refine ⟨(set_ne hne).trans set_same, by show 4 ≤ 15; decide, box_nodup, ?_⟩
      refine k d g _ hd hg' ⟨hne, ⟨0, x + 1, 0, set_same⟩, ⟨l.reverse, ?_⟩⟩ fun a h1 h2 => ?_
      · rw [set_ne hne.symm, set_same, List.map_reverse]
      · rw [set_ne h1, set_ne h2, set_ne h1]
end
end Hk
namespace Hk
open PySem PySem.Spec PyProof.Rows L2 Ov
abbrev s_names : Stmt := topS 27
theorem sc_names : FnScope ["_law_box_here", "_law_many", "_law_letters", "_law_found", "_law_form", "_law_stem", "_law_k", "_law_at", "_law_letter", "_law_bad", "_law_name"] ["_law_box_here", "_law_many"] (defScope s_names) := ⟨rfl, rfl, rfl, by decide +kernel, rfl, by decide +kernel, by decide +kernel⟩
local macro_rules | `(tactic| walk_at "w") => `(tactic| with_reducible first
  | refine iteT ?_ | refine iteF ?_
  | refine ws_seq ?_ | refine ws_if ?_ | refine ws_set ?_ | refine ws_ret ?_ | refine ws_drop ?_ | refine ws_next ?_ | refine ws_dputS ?_ | refine we_andT ?_ | refine we_orT ?_
  | refine wt_test ?_ | refine wt_and ?_ | refine wt_or ?_ | refine wt_not ?_ | refine wt_truK ?_ | refine wt_B ?_
  | refine we_op ?_ | refine we_cb ?_ | refine we_dgetS ?_ | refine wa_cons ?_ | refine wa_nil ?_ | refine we_var rfl ?_ | refine we_int ?_ | refine we_str ?_ | refine we_bl ?_ | refine we_non ?_ | refine we_ty ?_
  | refine w2_addI ?_ | refine w2_eqS ?_ | refine w2_neS ?_ | refine w2_eqI ?_ | refine w2_neI ?_ | refine w2_sub ?_ | refine w2_I0 ?_ | refine we_call ?_ | refine we_un ?_ | refine w1_neg ?_ | refine we_sl ?_ | refine wo_none ?_ | refine wo_some ?_ | refine we_notT ?_ | refine we_if ?_ | refine we_join ?_ | refine we_split ?_ | refine we_tup ?_ | refine wt_yes ?_ | refine ⟨_, rfl, ?_⟩)
local macro_rules | `(tactic| walk_at "v") => `(tactic| with_reducible first
  | refine iteT ?_ | refine iteF ?_
  | refine ws_seq ?_ | refine ws_par ?_ | refine ws_set ?_ | refine ws_ret ?_ | refine ws_drop ?_ | refine ws_next ?_ | refine ws_dputS ?_ | refine we_andT ?_ | refine we_orT ?_
  | refine wt_test ?_ | refine wt_and ?_ | refine wt_or ?_ | refine wt_not ?_ | refine wt_truK ?_ | refine wt_B ?_
  | refine we_op ?_ | refine we_cb ?_ | refine we_dgetS ?_ | refine wa_cons ?_ | refine wa_nil ?_ | refine we_var rfl ?_ | refine we_int ?_ | refine we_str ?_ | refine we_bl ?_ | refine we_non ?_ | refine we_ty ?_
  | refine w2_addI ?_ | refine w2_eqS ?_ | refine w2_neS ?_ | refine w2_eqI ?_ | refine w2_neI ?_ | refine w2_sub ?_ | refine w2_I0 ?_ | refine we_call ?_ | refine we_un ?_ | refine w1_neg ?_ | refine we_sl ?_ | refine wo_none ?_ | refine wo_some ?_ | refine we_notT ?_ | refine we_join ?_ | refine we_split ?_ | refine we_tup ?_ | refine wt_yes ?_ | refine ⟨_, rfl, ?_⟩)
local macro_rules | `(tactic| walk_at "s") => `(tactic| simp only [nox_K, cx_K, startA, List.map_cons, List.map_nil, List.length_cons, List.length_nil, List.cons_append, List.nil_append, Nat.reduceAdd, Nat.reduceSub, List.reduceReplicate])
local macro_rules | `(tactic| walk_at "n") => `(tactic| (try dsimp only [wipeD, List.set_cons_zero, List.set_cons_succ]))
local macro_rules | `(tactic| walk_at "bg") => `(tactic| ((repeat walk_at "w"); refine ⟨_, _, _, _, rfl, rfl, by first | assumption | exact set_same, by first | exact box_great | exact box_now | exact box_seed | exact box_turn | exact wld_tests | exact wld_params | exact wld_plus | exact wld_gives, ?_⟩; (repeat walk_at "w")))
local macro_rules | `(tactic| walk_at "bp") => `(tactic| ((repeat walk_at "w"); refine ⟨_, _, _, rfl, rfl, by first | assumption | exact set_same, by first | exact box_len | exact wld_len, ?_⟩; first | rw [box_now_put] | rw [box_seed_put] | rw [box_turn_put] | rw [wld_tests_put] | rw [wld_plus_put]))
local macro_rules | `(tactic| walk_at "t") => `(tactic| first | refine ⟨_, dc dn, dl rfl, ?_⟩ | refine ⟨_, dc (dc dn), dl rfl, ?_⟩ | refine ⟨_, dc (dc (dc dn)), dl rfl, ?_⟩ | refine ⟨_, dc (dc (dc (dc dn))), dl rfl, ?_⟩ | refine ⟨_, dc (dc (dc (dc (dc dn)))), dl rfl, ?_⟩)

section
variable {P : Program} {w : World} {K : PySem.W.Frag} {mg : Str → Option Value} {base : Heap}
theorem ok_names {f : Addr} {fd : FuncData} (T : Txt K mg) (F : Df K mg "_law_names" ["_law_box_here", "_law_many"] s_names f fd) (c_take : Cal P w K mg base 1 "_law_take" (SpA K 2 spTake)) (c_mixed : Cal P w K mg base 2 "_law_mixed" (SpA K 2 spMixed)) : Cal P w K mg base 3 "_law_names" (SpA K 2 spNames) := by
  have nd := sc_names.nd
  refine F.cal sc_names (fun vs H Q E h => h.1) (fun cdv A outer s H vs Q E hr h => ?_)
  have hu := hu_of hr
  refine ⟨_, (pss_cons (ps_asg (pe_tup (pa_cons pe_str (pa_cons (pe_lst pa_nil) (pa_cons (pe_c c_take hr (by omega) rfl (pa_cons (pv 0) (pa_cons pe_int pa_nil))) pa_nil)))) (pg_tupK (n := 3) K rfl (pgs_cons (pg_name (i := 2) nd rfl (Or.inr rfl)) (pgs_cons (pg_name (i := 3) nd rfl (Or.inr rfl)) (pgs_cons (pg_name (i := 4) nd rfl (Or.inl rfl)) pgs_nil)))))
 (pss_cons (ps_set (i := 5) nd rfl (Or.inr rfl) (pe_join pe_str (pe_lc (own := [("_law_k", 6)]) (g := gName 6) (by rfl) nd (pi_range1 (by rfl) T.b_range (pa_cons (pe_ix (ix_seqK K) (pe_lst (pa_cons pe_int (pa_cons pe_int (pa_cons pe_int (pa_cons pe_int pa_nil))))) (pe_c c_take hr (by omega) rfl (pa_cons (pv 0) (pa_cons pe_int pa_nil))) (fun _ _ => rfl)) pa_nil)) (blkOk_by (own := [("_law_k", 6)]) (N := ["_law_box_here", "_law_many", "_law_letters", "_law_found", "_law_form", "_law_stem", "_law_k", "_law_at", "_law_letter", "_law_bad", "_law_name"]) (sc := defScope s_names) (by decide +kernel)) (fun _ _ _ _ _ => (pg_name (i := 6) nd rfl (Or.inl rfl))) (fun _ _ _ _ _ => pts_nil) (fun _ _ _ _ _ => (pe_ix (ix_seqK K) (pv 2) (pe_c c_take hr (by omega) rfl (pa_cons (pv 0) (pa_cons pe_int pa_nil))) (fun _ _ => rfl))))))
 (pss_cons (ps_set (i := 7) nd rfl (Or.inr rfl) (pe_c c_take hr (by omega) rfl (pa_cons (pv 0) (pa_cons (pe_op (op_addK K) (pe_callB (call_lenK K) (by rfl) T.b_len (by decide +kernel) (pa_cons (pv 5) pa_nil)) pe_int) pa_nil))))
 (pss_cons (ps_if (pt_cmpR (op_eqK K hr.units) (pv 4) pe_int (nomark _))
 (pss_one (ps_set (i := 3) nd rfl (Or.inr rfl) (pe_split pe_str pe_str)))
 pss_nil)
 (pss_cons (ps_set (i := 3) nd rfl (Or.inr rfl) (pe_op (op_addK K) (pv 3) (pe_lc (own := [("_law_letter", 8)]) (g := gName 8) (by rfl) nd (pi_listK K (pe_c c_mixed hr (by omega) rfl (pa_cons (pv 0) (pa_cons (pv 2) pa_nil)))) (blkOk_by (own := [("_law_letter", 8)]) (N := ["_law_box_here", "_law_many", "_law_letters", "_law_found", "_law_form", "_law_stem", "_law_k", "_law_at", "_law_letter", "_law_bad", "_law_name"]) (sc := defScope s_names) (by decide +kernel)) (fun _ _ _ _ _ => (pg_name (i := 8) nd rfl (Or.inl rfl))) (fun _ _ _ _ _ => pts_nil) (fun _ _ _ _ _ => (pe_op (op_addK K) (pe_op (op_addK K) (pe_slice (sl_anyK K) (pv 5) po_none (po_some (pv 7))) (pv 8)) (pe_slice (sl_anyK K) (pv 5) (po_some (pv 7)) po_none))))))
 (pss_cons (ps_set (i := 9) nd rfl (Or.inr rfl) pe_str)
 (pss_cons (ps_set (i := 9) nd rfl (Or.inr rfl) (pe_split (pe_op (op_addK K) (pv 9) pe_str) pe_str))
 (pss_cons (ps_set (i := 3) nd rfl (Or.inr rfl) (pe_lc (own := [("_law_k", 6), ("_law_name", 10)]) (g := _) (by rfl) nd (pi_enumK K (by rfl) T.b_enumerate (pa_cons (pv 3) pa_nil)) (blkOk_by (own := [("_law_k", 6), ("_law_name", 10)]) (N := ["_law_box_here", "_law_many", "_law_letters", "_law_found", "_law_form", "_law_stem", "_law_k", "_law_at", "_law_letter", "_law_bad", "_law_name"]) (sc := defScope s_names) (by decide +kernel)) (fun _ _ _ _ _ => (pg_tupK (n := 2) K rfl (pgs_cons (pg_name (i := 6) nd rfl (Or.inl rfl)) (pgs_cons (pg_name (i := 10) nd rfl (Or.inl rfl)) pgs_nil)))) (fun _ _ _ _ _ => (pts_one (PW.pt (pw_and (pt_cmpR (op_notInK K) (pv 10) (pv 9) (by rfl)) (pw_and1 (pt_cmpR (op_notInK K) (pv 10) (pe_slice (sl_anyK K) (pv 3) po_none (po_some (pv 6))) (by rfl))))))) (fun _ _ _ _ _ => (pv 10))))
 (pss_one (ps_ret (pe_c c_mixed hr (by omega) rfl (pa_cons (pv 0) (pa_cons (pe_slice (sl_anyK K) (pv 3) po_none (po_some (pv 1))) pa_nil))))))))))))), body_ok h (by decide) ?_⟩
  rintro as S P' - ⟨d, g, m, rfl, hm1, hm4, hB, k⟩
  walk_at "s"
  repeat walk_at "w"
  -- letters, found, form = '..', [], take(box, 4)
  refine ws_asg ?_
  repeat walk_at "w"
  refine we_lst ?_
  repeat walk_at "w"
  refine ⟨[], rfl, by decide, ?_⟩
  repeat walk_at "w"
  refine ⟨rfl, d, g, 4, rfl, by decide, by decide, hB, fun form S1 _ _ hB1 hO1 => ?_⟩
  repeat walk_at "w"
  refine ⟨[.str lets, .list [], .int form], rfl, by show 3 ≤ 100000; decide, ?_⟩
  refine wg_tup rfl (wgs_cons (wg_name (wgs_cons (wg_name (wgs_cons (wg_name (wgs_nil ?_)))))))
  walk_at "n"
  repeat walk_at "w"
  -- the stem
  refine we_lc (wip_name (by decide)) (wi_range ?_)
  repeat walk_at "w"
  refine we_lst ?_
  repeat walk_at "w"
  refine ⟨[.int 0, .int 1, .int 3, .int 7], rfl, by show 4 ≤ 100000; decide, ?_⟩
  repeat walk_at "w"
  refine ⟨rfl, d, g, 4, rfl, by decide, by decide, hB1, fun r S2 h0 h1 hB2 hO2 => ?_⟩
  obtain ⟨n, hn7, hn⟩ : ∃ n : Nat, n ≤ 7 ∧ ([.int 0, .int 1, .int 3, .int 7] : List PyData)[r.toNat]? = some (.int (n : Nat)) := by
    have h4 : r = 0 ∨ r = 1 ∨ r = 2 ∨ r = 3 := by omega
    rcases h4 with rfl | rfl | rfl | rfl
    · exact ⟨0, by decide, rfl⟩
    · exact ⟨1, by decide, rfl⟩
    · exact ⟨3, by decide, rfl⟩
    · exact ⟨7, by decide, rfl⟩
  have er : r = ((r.toNat : Nat) : Int) := by omega
  rw [er]
  refine w2_ixL nw_dat hn ?_
  repeat walk_at "w"
  refine ⟨by omega, by omega, fun D hD => ?_⟩
  have nD := hB2.ne_new hD
  refine ⟨fun i acc S' => Box d g S' ∧ (∀ a, a ≠ d → a ≠ g → a ≠ D → S' a = S2 a) ∧ ∃ ys : List Str, acc = ys.map PyData.str ∧ ys.length ≤ i ∧ ∀ y ∈ ys, ∃ c, cs y = [c] ∧ lower c, ?_, ?_, ?_⟩
  · exact ⟨hB2.set_ne' nD.1 nD.2, fun a _ _ h => set_ne h, [], rfl, Nat.le_refl _, fun y hy => nomatch hy⟩
  · rintro i acc S' hi hacc hD' ⟨hB', hO', ys, rfl, hys, hy⟩
    refine wg_name ?_
    walk_at "n"
    repeat walk_at "w"
    refine ⟨rfl, d, g, 26, rfl, by decide, by decide, hB', fun q S3 q0 q1 hB3 hO3 => ?_⟩
    obtain ⟨c, hc, hlow⟩ := lets_at (i := q.toNat) (by omega)
    have eq : q = ((q.toNat : Nat) : Int) := by omega
    rw [eq]
    refine w2_ixS (z := lets) (by decide +kernel) hc ?_
    refine ⟨_, rfl, (hO3 D nD.1.symm nD.2.symm).trans hD', hB3.set_ne' nD.1 nD.2, fun a h1 h2 h3 => ?_, ys ++ [⟨#[c]⟩], by simp, by simp; omega, fun y hy' => ?_⟩
    · rw [set_ne h3]
      exact (hO3 a h1 h2).trans (hO' a h1 h2 h3)
    · rcases List.mem_append.mp hy' with z | z
      · exact hy y z
      · have : y = ⟨#[c]⟩ := by simpa using z
        exact ⟨c, by rw [this], hlow⟩
  · rintro acc S' hacc hD' ⟨hB', hO', ys, rfl, hys, hy⟩
    have hsum : (ys.map (·.length)).sum = ys.length := by
      clear hys hacc hD'
      induction ys with
      | nil => rfl
      | cons y ys ih =>
        obtain ⟨c, e, _⟩ := hy y (by simp)
        have e1 : y.length = 1 := by rw [← cs_len, e]; rfl
        rw [List.map_cons, List.sum_cons, ih fun u hu => hy u (List.mem_cons_of_mem _ hu), e1, List.length_cons]
        omega
    refine ⟨ys, .inl nw_dat, by rw [hsum, show (Str.ofString "").length = 0 from by decide +kernel]; omega, ?_⟩
    have hB3 := hB'.del_ne' nD.1 nD.2
    have hO3 : Only2 d g S (S'.del D) := fun a h1 h2 => by
      by_cases h : a = D
      · rw [h, Ov.del_same, ← hD]
        exact ((hO1.trans hO2) D nD.1.symm nD.2.symm)
      · rw [Ov.del_ne h]
        exact (hO' a h1 h2 h).trans ((hO1.trans hO2) a h1 h2)
    have hzc : cs (Txt.join "" ys) = (ys.map cs).flatten := cs_join0 ys
    have hz1 : (Txt.join "" ys).length = ys.length := by
      rw [← cs_len, hzc, List.length_flatten, List.map_map]
      exact hsum
    have hz2 : ∀ c ∈ cs (Txt.join "" ys), lower c := by
      rw [hzc]
      intro c hc
      obtain ⟨l, h1, h2⟩ := List.mem_flatten.mp hc
      obtain ⟨y, h3, rfl⟩ := List.mem_map.mp h1
      obtain ⟨u, e, hu⟩ := hy y h3
      rw [e] at h2
      have : c = u := by simpa using h2
      rw [this]
      exact hu
    generalize (Txt.join "" ys) = z at hz1 hz2
    walk_at "n"
    -- at = take(box, len(stem) + 1)
    repeat walk_at "w"
    refine wc_len (.inr (.inr ⟨z, rfl, by omega, rfl⟩)) ?_
    repeat walk_at "w"
    refine ⟨rfl, d, g, _, rfl, by omega, by omega, hB3, fun t S4 t0 t1 hB4 hO4 => ?_⟩
    obtain ⟨at', rfl⟩ : ∃ at' : Nat, t = at' := ⟨t.toNat, by omega⟩
    walk_at "n"
    -- if form == 0
    refine ws_cut (fun δ' S' => S' = S4 ∧ ∃ l : List Str, (∀ x ∈ l, NameOk x) ∧ l.length ≤ 16 ∧ δ' = [some (.own d), some (.dat (.int m)), some (.dat (.str lets)), some (.dat (.list (l.map PyData.str))), some (.dat (.int form)), some (.dat (.str z)), none, some (.dat (.int at')), none, none, none]) ?_ ?_
    · repeat walk_at "w"
      refine ite2 (fun e0 => ?_) (fun e0 => ?_)
      · repeat walk_at "w"
        refine ⟨by decide +kernel, by decide +kernel, ?_⟩
        rw [split_good]
        walk_at "n"
        exact ⟨by first | rfl | trivial, goodWords, good_ok, by decide +kernel, rfl⟩
      · repeat walk_at "w"
        exact ⟨rfl, [], fun x hx => (nomatch hx), Nat.zero_le _, rfl⟩
    · rintro δ' S5 ⟨rfl, l, hl, hl16, rfl⟩
      repeat walk_at "w"
      refine we_lc (wip_name (by decide)) (wi_list ?_)
      repeat walk_at "w"
      refine ⟨rfl, d, g, .dat (.str lets), (Ov.signs lets).map PyData.str, rfl, .inr ⟨lets, rfl, by decide +kernel, rfl⟩, by rw [List.length_map, signs_lets_len]; decide, hB4, fun es S6 hp hB6 hO6 => ?_⟩
      obtain ⟨ls, hls, rfl⟩ := perm_map hp (Ov.signs lets) rfl
      have hlen : ls.length = 26 := hls.length_eq.trans signs_lets_len
      have hone : ∀ y ∈ ls, ∃ c, cs y = [c] ∧ lower c := fun y hy => by
        obtain ⟨c, h1, h2⟩ := signs_one (hls.mem_iff.mp hy)
        exact ⟨c, h2, lets_lower c h1⟩
      have hnd : (ls.map (ins z at')).Nodup := by
        have h1 := hls.nodup_iff.mpr signs_lets_nodup
        exact List.Pairwise.map _ (fun a b hab e => hab (ins_inj e)) h1
      refine ⟨_, rfl, by rw [List.length_map, hlen]; decide, fun D2 hD2 => ?_⟩
      have nD2 := hB6.ne_new hD2
      refine ⟨fun i acc S' => acc = (ls.take i).map (fun y => PyData.str (ins z at' y)) ∧ Box d g S' ∧ ∀ a, a ≠ d → a ≠ g → a ≠ D2 → S' a = S6 a, ?_, ?_, ?_⟩
      · exact ⟨rfl, hB6.set_ne' nD2.1 nD2.2, fun a _ _ h => set_ne h⟩
      · rintro i acc S7 hi hacc hD7 ⟨rfl, hB7, hO7⟩
        rw [List.length_map] at hi
        have hx := getD_map PyData.str ls i hi
        simp only [hx]
        obtain ⟨c, hc, _⟩ := hone _ (List.getElem_mem hi)
        have hy1 : ls[i].length = 1 := by rw [← cs_len, hc]; rfl
        refine wg_name ?_
        walk_at "n"
        repeat walk_at "w"
        refine wl_S (by omega) ?_
        have hc1 : (cutS z none (some (at' : Int))).length ≤ 7 := by
          rw [← cs_len, cutS_to, List.length_take, cs_len]
          omega
        have hc2 : (cutS z (some (at' : Int)) none).length ≤ 7 := by
          rw [← cs_len, cutS_from, List.length_drop, cs_len]
          omega
        have hc3 : (cutS z none (some (at' : Int)) ++ ls[i]).length ≤ 8 := by
          rw [← cs_len, cs_app, List.length_append, cs_len, cs_len]
          omega
        repeat walk_at "w"
        refine w2_addS (by omega) ?_
        repeat walk_at "w"
        refine wl_S (by omega) ?_
        refine w2_addS (by omega) ?_
        refine ⟨_, rfl, hD7, ?_, hB7.set_ne' nD2.1 nD2.2, fun a h1 h2 h3 => (set_ne h3).trans (hO7 a h1 h2 h3)⟩
        rw [List.take_succ_eq_append_getElem hi, List.map_append]
        rfl
      · rintro acc S7 hacc hD7 ⟨rfl, hB7, hO7⟩
        have hB8 := hB7.del_ne' nD2.1 nD2.2
        have hO8 : Only2 d g S (S7.del D2) := fun a h1 h2 => by
          by_cases h : a = D2
          · rw [h, Ov.del_same, ← hD2]
            exact (((hO3.trans hO4).trans hO6) D2 nD2.1.symm nD2.2.symm)
          · rw [Ov.del_ne h]
            exact (hO7 a h1 h2 h).trans (((hO3.trans hO4).trans hO6) a h1 h2)
        have eacc : (ls.take (ls.map PyData.str).length).map (fun y => PyData.str (ins z at' y)) = (ls.map (ins z at')).map PyData.str := by
          rw [List.length_map, List.take_length, List.map_map]
          rfl
        rw [eacc]
        refine w2_addL nw_dat nw_dat (by simp; omega) ?_
        rw [← List.map_append]
        have hins : ∀ x ∈ ls.map (ins z at'), NameOk x := fun x hx => by
          obtain ⟨y, h1, rfl⟩ := List.mem_map.mp hx
          exact ins_ok (by omega) hz2 (hone y h1)
        have hall : ∀ x ∈ l ++ ls.map (ins z at'), NameOk x := fun x hx => (List.mem_append.mp hx).elim (hl x) (hins x)
        have hsub : ∀ x ∈ ls.map (ins z at'), x ∈ l ++ ls.map (ins z at') := fun x hx => List.mem_append_right _ hx
        have hfl : (l ++ ls.map (ins z at')).length ≤ 42 := by simp; omega
        have hi26 : (ls.map (ins z at')).length = 26 := by simp [hlen]
        generalize ls.map (ins z at') = is' at hnd hins hall hsub hfl hi26
        generalize l ++ is' = fl at hall hsub hfl
        walk_at "n"
        repeat walk_at "w"
        walk_at "n"
        repeat walk_at "w"
        refine w2_addS (by decide +kernel) ?_
        repeat walk_at "w"
        refine ⟨by decide +kernel, by decide +kernel, ?_⟩
        rw [split_bad]
        walk_at "n"
        repeat walk_at "w"
        refine we_lc (wip_pair (by decide) (by decide)) (wi_enum ?_)
        repeat walk_at "w"
        refine ⟨by rw [List.length_map]; omega, fun D3 hD3 => ?_⟩
        have nD3 := hB8.ne_new hD3
        refine ⟨fun i acc S' => (∃ ys : List Str, acc = ys.map PyData.str ∧ ys.Nodup ∧ (∀ y ∈ ys, y ∈ fl.take i ∧ y ∉ badWords) ∧ ∀ y ∈ fl.take i, y ∉ badWords → y ∈ ys) ∧ Box d g S' ∧ ∀ a, a ≠ d → a ≠ g → a ≠ D3 → S' a = (S7.del D2) a, ?_, ?_, ?_⟩
        · exact ⟨⟨[], rfl, List.nodup_nil, fun y hy => (nomatch hy), fun y hy => by simp at hy⟩, hB8.set_ne' nD3.1 nD3.2, fun a _ _ h => set_ne h⟩
        · rintro i acc S8 hi hacc hD8 ⟨⟨ys, rfl, hy1, hy2, hy3⟩, hB9, hO9⟩
          rw [List.length_map] at hi
          have hx := getD_map PyData.str fl i hi
          simp only [hx]
          refine wg_tup rfl (wgs_cons (wg_name (wgs_cons (wg_name (wgs_nil ?_)))))
          walk_at "n"
          repeat walk_at "w"
          refine w2_inS (.inl nw_dat) ?_
          repeat walk_at "w"
          have htk : fl.take (i + 1) = fl.take i ++ [fl[i]] := List.take_succ_eq_append_getElem hi
          refine ite2 (fun e1 => ?_) (fun e1 => ?_)
          · have hnb : fl[i] ∉ badWords := by simpa using e1
            repeat walk_at "w"
            refine wl_L nw_dat ?_
            rw [cut_to, ← List.map_take]
            refine w2_inS (.inl nw_dat) ?_
            repeat walk_at "w"
            refine ite2 (fun e2 => ?_) (fun e2 => ?_)
            · have hnt : fl[i] ∉ fl.take i := by simpa using e2
              repeat walk_at "w"
              refine ⟨hD8, ⟨ys ++ [fl[i]], by simp, ?_, fun y hy => ?_, fun y hy hb => ?_⟩, hB9.set_ne' nD3.1 nD3.2, fun a h1 h2 h3 => (set_ne h3).trans (hO9 a h1 h2 h3)⟩
              · refine List.nodup_append.mpr ⟨hy1, by simp, fun a ha b hb e => ?_⟩
                have : b = fl[i] := by simpa using hb
                rw [e, this] at ha
                exact hnt (hy2 _ ha).1
              · rw [htk]
                rcases List.mem_append.mp hy with h | h
                · exact ⟨List.mem_append_left _ (hy2 y h).1, (hy2 y h).2⟩
                · have : y = fl[i] := by simpa using h
                  rw [this]
                  exact ⟨List.mem_append_right _ (by simp), hnb⟩
              · rw [htk] at hy
                rcases List.mem_append.mp hy with h | h
                · exact List.mem_append_left _ (hy3 y h hb)
                · exact List.mem_append_right _ h
            · have hin : fl[i] ∈ fl.take i := by simpa using e2
              refine ⟨hD8, ⟨ys, rfl, hy1, fun y hy => ?_, fun y hy hb => ?_⟩, hB9, hO9⟩
              · rw [htk]
                exact ⟨List.mem_append_left _ (hy2 y hy).1, (hy2 y hy).2⟩
              · rw [htk] at hy
                rcases List.mem_append.mp hy with h | h
                · exact hy3 y h hb
                · have : y = fl[i] := by simpa using h
                  rw [this]
                  exact hy3 _ hin hnb
          · have hbd : fl[i] ∈ badWords := by simpa using e1
            refine iteF ?_
            refine ⟨hD8, ⟨ys, rfl, hy1, fun y hy => ?_, fun y hy hb => ?_⟩, hB9, hO9⟩
            · rw [htk]
              exact ⟨List.mem_append_left _ (hy2 y hy).1, (hy2 y hy).2⟩
            · rw [htk] at hy
              rcases List.mem_append.mp hy with h | h
              · exact hy3 y h hb
              · have : y = fl[i] := by simpa using h
                rw [this] at hb
                exact absurd hbd hb
        · rintro acc S8 hacc hD8 ⟨⟨ys, rfl, hy1, hy2, hy3⟩, hB9, hO9⟩
          rw [List.length_map, List.take_length] at hy2 hy3
          have h4 : 4 ≤ ys.length := left_over hnd hi26 fun x hx hb => hy3 x (hsub x hx) hb
          have hB10 := hB9.del_ne' nD3.1 nD3.2
          have hO10 : Only2 d g S (S8.del D3) := fun a h1 h2 => by
            by_cases h : a = D3
            · rw [h, Ov.del_same, ← hD3]
              exact hO8 D3 nD3.1.symm nD3.2.symm
            · rw [Ov.del_ne h]
              exact (hO9 a h1 h2 h).trans (hO8 a h1 h2)
          walk_at "n"
          repeat walk_at "w"
          refine wl_L nw_dat ?_
          rw [cut_to, ← List.map_take]
          repeat walk_at "w"
          refine ⟨rfl, d, g, _, _, rfl, .inl rfl, by rw [List.length_map, List.length_take]; omega, hB10, fun es S9 hp9 hB11 hO11 => ?_⟩
          obtain ⟨ns, hns, rfl⟩ := perm_map hp9 (ys.take m) rfl
          refine k ns S9 ?_ ?_ (fun x hx => ?_) hB11 (hO10.trans hO11)
          · rw [hns.length_eq, List.length_take]
            omega
          · exact hns.nodup_iff.mpr (hy1.sublist (List.take_sublist _ _))
          · have := List.mem_of_mem_take (hns.mem_iff.mp hx)
            exact ⟨hall x (hy2 x this).1, (hy2 x this).2⟩
end
end Hk
namespace Hk
open PySem PySem.Spec PyProof.Rows L2 Ov
abbrev s_value : Stmt := topS 29
theorem sc_value : FnScope ["_law_box_here", "_law_sort"] ["_law_box_here", "_law_sort"] (defScope s_value) := ⟨rfl, rfl, rfl, by decide +kernel, rfl, by decide +kernel, by decide +kernel⟩
abbrev s_hook : Stmt := topS 28
theorem sc_hook : FnScope ["_law_box_here", "_law_name", "_law_kind", "_law_names_here", "_law_sorts", "_law_many", "_law_wide", "_law_some", "_law_late", "_law_k", "_law_sort", "_law_outs"] ["_law_box_here", "_law_name", "_law_kind"] (defScope s_hook) := ⟨rfl, rfl, rfl, by decide +kernel, rfl, by decide +kernel, by decide +kernel⟩
local macro_rules | `(tactic| walk_at "w") => `(tactic| with_reducible first
  | refine iteT ?_ | refine iteF ?_
  | refine ws_seq ?_ | refine ws_if ?_ | refine ws_set ?_ | refine ws_ret ?_ | refine ws_drop ?_ | refine ws_next ?_ | refine ws_dputS ?_ | refine we_andT ?_ | refine we_orT ?_
  | refine wt_test ?_ | refine wt_and ?_ | refine wt_or ?_ | refine wt_not ?_ | refine wt_truK ?_ | refine wt_B ?_
  | refine we_op ?_ | refine we_cb ?_ | refine we_dgetS ?_ | refine wa_cons ?_ | refine wa_nil ?_ | refine we_var rfl ?_ | refine we_int ?_ | refine we_str ?_ | refine we_bl ?_ | refine we_non ?_ | refine we_ty ?_
  | refine w2_addI ?_ | refine w2_eqS ?_ | refine w2_neS ?_ | refine w2_eqI ?_ | refine w2_neI ?_ | refine w2_sub ?_ | refine w2_I0 ?_ | refine we_call ?_ | refine we_un ?_ | refine w1_neg ?_ | refine we_sl ?_ | refine wo_none ?_ | refine wo_some ?_ | refine we_notT ?_ | refine we_if ?_ | refine we_join ?_ | refine we_split ?_ | refine we_tup ?_ | refine wt_yes ?_ | refine ⟨_, rfl, ?_⟩)
local macro_rules | `(tactic| walk_at "v") => `(tactic| with_reducible first
  | refine iteT ?_ | refine iteF ?_
  | refine ws_seq ?_ | refine ws_par ?_ | refine ws_set ?_ | refine ws_ret ?_ | refine ws_drop ?_ | refine ws_next ?_ | refine ws_dputS ?_ | refine we_andT ?_ | refine we_orT ?_
  | refine wt_test ?_ | refine wt_and ?_ | refine wt_or ?_ | refine wt_not ?_ | refine wt_truK ?_ | refine wt_B ?_
  | refine we_op ?_ | refine we_cb ?_ | refine we_dgetS ?_ | refine wa_cons ?_ | refine wa_nil ?_ | refine we_var rfl ?_ | refine we_int ?_ | refine we_str ?_ | refine we_bl ?_ | refine we_non ?_ | refine we_ty ?_
  | refine w2_addI ?_ | refine w2_eqS ?_ | refine w2_neS ?_ | refine w2_eqI ?_ | refine w2_neI ?_ | refine w2_sub ?_ | refine w2_I0 ?_ | refine we_call ?_ | refine we_un ?_ | refine w1_neg ?_ | refine we_sl ?_ | refine wo_none ?_ | refine wo_some ?_ | refine we_notT ?_ | refine we_join ?_ | refine we_split ?_ | refine we_tup ?_ | refine wt_yes ?_ | refine ⟨_, rfl, ?_⟩)
local macro_rules | `(tactic| walk_at "s") => `(tactic| simp only [nox_K, cx_K, startA, List.map_cons, List.map_nil, List.length_cons, List.length_nil, List.cons_append, List.nil_append, Nat.reduceAdd, Nat.reduceSub, List.reduceReplicate])
local macro_rules | `(tactic| walk_at "n") => `(tactic| (try dsimp only [wipeD, List.set_cons_zero, List.set_cons_succ]))
local macro_rules | `(tactic| walk_at "bg") => `(tactic| ((repeat walk_at "w"); refine ⟨_, _, _, _, rfl, rfl, by first | assumption | exact set_same, by first | exact box_great | exact box_now | exact box_seed | exact box_turn | exact wld_tests | exact wld_params | exact wld_plus | exact wld_gives, ?_⟩; (repeat walk_at "w")))
local macro_rules | `(tactic| walk_at "bp") => `(tactic| ((repeat walk_at "w"); refine ⟨_, _, _, rfl, rfl, by first | assumption | exact set_same, by first | exact box_len | exact wld_len, ?_⟩; first | rw [box_now_put] | rw [box_seed_put] | rw [box_turn_put] | rw [wld_tests_put] | rw [wld_plus_put]))
local macro_rules | `(tactic| walk_at "t") => `(tactic| first | refine ⟨_, dc dn, dl rfl, ?_⟩ | refine ⟨_, dc (dc dn), dl rfl, ?_⟩ | refine ⟨_, dc (dc (dc dn)), dl rfl, ?_⟩ | refine ⟨_, dc (dc (dc (dc dn))), dl rfl, ?_⟩ | refine ⟨_, dc (dc (dc (dc (dc dn)))), dl rfl, ?_⟩)

section
variable {P : Program} {w : World} {K : PySem.W.Frag} {mg : Str → Option Value} {base : Heap}
theorem ok_value {f : Addr} {fd : FuncData} (T : Txt K mg) (F : Df K mg "_law_value" ["_law_box_here", "_law_sort"] s_value f fd) (c_take : Cal P w K mg base 1 "_law_take" (SpA K 2 spTake)) (c_pick : Cal P w K mg base 2 "_law_pick" (SpA K 2 spPick)) : Cal P w K mg base 3 "_law_value" (SpA K 2 spValue) := by
  have nd := sc_value.nd
  refine F.cal sc_value (fun vs H Q E h => h.1) (fun cdv A outer s H vs Q E hr h => ?_)
  have hu := hu_of hr
  refine ⟨_, (pss_cons (ps_if (pt_cmpR (op_eqK K hr.units) (pv 1) pe_str (nomark _))
 (pss_one (ps_ret (pe_c c_pick hr (by omega) rfl (pa_cons (pv 0) (pa_cons (pe_lst (pa_cons pe_str (pa_cons pe_str (pa_cons pe_str (pa_cons pe_str (pa_cons pe_str (pa_cons pe_str pa_nil))))))) pa_nil)))))
 pss_nil)
 (pss_one (ps_ret (pe_ix (ix_seqK K) (pe_lst (pa_cons (pe_op op_sub (pe_c c_take hr (by omega) rfl (pa_cons (pv 0) (pa_cons pe_int pa_nil))) pe_int) (pa_cons (pe_op op_sub (pe_c c_take hr (by omega) rfl (pa_cons (pv 0) (pa_cons pe_int pa_nil))) pe_int) (pa_cons (pe_op op_sub (pe_c c_take hr (by omega) rfl (pa_cons (pv 0) (pa_cons pe_int pa_nil))) pe_int) pa_nil)))) (pe_op op_fdivN (pe_c c_take hr (by omega) rfl (pa_cons (pv 0) (pa_cons pe_int pa_nil))) pe_int) (fun _ _ => rfl))))), body_ok h (by decide) ?_⟩
  rintro as S P' - ⟨d, g, st, rfl, hst, hB, k⟩
  walk_at "s"
  repeat walk_at "w"
  refine ite2 (fun e0 => ?_) (fun e0 => ?_)
  · have es : st = "word" := of_decide_eq_true e0
    repeat walk_at "w"
    refine we_lst ?_
    repeat walk_at "w"
    refine ⟨valWords.map PyData.str, rfl, by show 6 ≤ 100000; decide, ?_⟩
    repeat walk_at "w"
    refine ⟨rfl, d, g, _, rfl, by show 0 < 6; decide, by show 6 < 1000000; decide, hB, fun i x S1 hx hB1 hO1 => ?_⟩
    rw [List.getElem?_map] at hx
    cases e1 : valWords[i]? with
    | none => rw [e1] at hx; cases hx
    | some y =>
      rw [e1] at hx
      cases hx
      exact k _ S1 (.inl ⟨es, y, rfl, valWords_ok y (List.mem_of_getElem? e1)⟩) hB1 hO1
  · have es : st = "number" := hst.elim id fun z => absurd (decide_eq_true z) e0
    repeat walk_at "w"
    refine we_lst ?_
    repeat walk_at "w"
    refine ⟨rfl, d, g, 10, rfl, by decide, by decide, hB, fun r1 S1 a1 b1 hB1 hO1 => ?_⟩
    repeat walk_at "w"
    refine ⟨rfl, d, g, 10, rfl, by decide, by decide, hB1, fun r2 S2 a2 b2 hB2 hO2 => ?_⟩
    repeat walk_at "w"
    refine ⟨rfl, d, g, 1999, rfl, by decide, by decide, hB2, fun r3 S3 a3 b3 hB3 hO3 => ?_⟩
    repeat walk_at "w"
    refine ⟨[.int (r1 - 4), .int (r2 - 4), .int (r3 - 999)], rfl, by show 3 ≤ 100000; decide, ?_⟩
    repeat walk_at "w"
    refine ⟨rfl, d, g, 9, rfl, by decide, by decide, hB3, fun r4 S4 a4 b4 hB4 hO4 => ?_⟩
    repeat walk_at "w"
    refine w2_fdiv (by decide) (by decide) ?_
    have hO := ((hO1.trans hO2).trans hO3).trans hO4
    have h3 : r4 / 4 = 0 ∨ r4 / 4 = 1 ∨ r4 / 4 = 2 := by omega
    rcases h3 with h | h | h
    · rw [h]
      exact w2_ixL (i := 0) nw_dat rfl (k _ S4 (.inr ⟨es, _, rfl, by omega, by omega⟩) hB4 hO)
    · rw [h]
      exact w2_ixL (i := 1) nw_dat rfl (k _ S4 (.inr ⟨es, _, rfl, by omega, by omega⟩) hB4 hO)
    · rw [h]
      exact w2_ixL (i := 2) nw_dat rfl (k _ S4 (.inr ⟨es, _, rfl, by omega, by omega⟩) hB4 hO)
theorem ok_hook {f : Addr} {fd : FuncData} (T : Txt K mg) (F : Df K mg "_law_hook" ["_law_box_here", "_law_name", "_law_kind"] s_hook f fd) (c_take : Cal P w K mg base 1 "_law_take" (SpA K 2 spTake)) (c_pick : Cal P w K mg base 2 "_law_pick" (SpA K 2 spPick)) (c_names : Cal P w K mg base 3 "_law_names" (SpA K 2 spNames)) (c_value : Cal P w K mg base 3 "_law_value" (SpA K 2 spValue)) : Cal P w K mg base 4 "_law_hook" (SpA K 3 spHook) := by
  have nd := sc_hook.nd
  refine F.cal sc_hook (fun vs H Q E h => h.1) (fun cdv A outer s H vs Q E hr h => ?_)
  have hu := hu_of hr
  refine ⟨_, (pss_cons (ps_par (i := 3) (j := 4) (by rfl) nd rfl rfl (by decide) rfl rfl (pa_cons (pe_c c_names hr (by omega) rfl (pa_cons (pv 0) (pa_cons pe_int pa_nil))) (pa_cons (pe_lst (pa_cons pe_str (pa_cons pe_str (pa_cons pe_str pa_nil)))) pa_nil)) (by rfl))
 (pss_cons (ps_set (i := 5) nd rfl (Or.inl rfl) (pe_c c_take hr (by omega) rfl (pa_cons (pv 0) (pa_cons pe_int pa_nil))))
 (pss_cons (ps_set (i := 5) nd rfl (Or.inl rfl) (pe_ifExp (pt_cmpR (op_eqK K hr.units) (pv 2) pe_str (nomark _)) (pe_callB (call_max2 rfl) (by rfl) T.b_max (by decide +kernel) (pa_cons (pv 5) (pa_cons pe_int pa_nil))) (pv 5)))
 (pss_cons (ps_set (i := 6) nd rfl (Or.inl rfl) (pe_op op_sub (pv 5) (pe_c c_take hr (by omega) rfl (pa_cons (pv 0) (pa_cons (pe_op (op_addK K) (pv 5) pe_int) pa_nil)))))
 (pss_cons (ps_set (i := 6) nd rfl (Or.inl rfl) (pe_ifExp (pt_cmpR (op_eqK K hr.units) (pv 2) pe_str (nomark _)) (pe_callB (call_max2 rfl) (by rfl) T.b_max (by decide +kernel) (pa_cons (pv 6) (pa_cons pe_int pa_nil))) (pv 6)))
 (pss_cons (ps_par (i := 7) (j := 8) (by rfl) nd rfl rfl (by decide) rfl rfl (pa_cons (pe_lst pa_nil) (pa_cons pe_bl pa_nil)) (by rfl))
 (pss_cons (ps_for PassesOwn.never rfl (pi_range1 (by rfl) T.b_range (pa_cons (pv 5) pa_nil)) (pg_name (i := 9) nd rfl (Or.inl rfl))
 (pss_cons (ps_set (i := 10) nd rfl (Or.inl rfl) (pe_c c_pick hr (by omega) rfl (pa_cons (pv 0) (pa_cons (pv 4) pa_nil))))
 (pss_cons (ps_set (i := 8) nd rfl (Or.inl rfl) (pe_orK K (pe_andK K (pv 8) (pe_one (pe_cmpR (op_lt) (pv 9) (pv 6) (nomark _)))) (pe_one (pe_cmpR (op_eqK K hr.units) (pe_c c_take hr (by omega) rfl (pa_cons (pv 0) (pa_cons pe_int pa_nil))) pe_int (nomark _)))))
 (pss_cons (ps_set (i := 8) nd rfl (Or.inl rfl) (pe_andK K (pv 8) (pe_one (pe_notK K (pe_andK K (pe_cmpR (op_eqK K hr.units) (pv 2) pe_str (nomark _)) (pe_one (pe_cmpR (op_eqK K hr.units) (pv 9) pe_int (nomark _))))))))
 (pss_one (ps_expr (pe_bmK K PySem.F.plainAttrs_list PySem.F.slot_list_append PySem.F.type_list_append mt_append (pv 7) (pa_cons (pe_tup (pa_cons (pe_ix (ix_seqK K) (pv 3) (pv 9) (fun _ _ => rfl)) (pa_cons (pv 10) (pa_cons (pe_ifExp (pt_truK K (pv 8) (by intro _; rfl)) (pe_c c_value hr (by omega) rfl (pa_cons (pv 0) (pa_cons (pv 10) pa_nil))) pe_non) pa_nil)))) pa_nil))))))))
 (pss_cons (ps_set (i := 11) nd rfl (Or.inl rfl) (pe_ifExp (pt_cmpR (op_eqK K hr.units) (pv 2) pe_str (nomark _)) (pe_ix (ix_seqK K) (pe_ix (ix_seqK K) (pv 7) pe_int (fun _ _ => rfl)) pe_int (fun _ _ => rfl)) (pe_c c_pick hr (by omega) rfl (pa_cons (pv 0) (pa_cons (pv 4) pa_nil)))))
 (pss_one (ps_ret (pe_tup (pa_cons (pv 1) (pa_cons (pv 2) (pa_cons (pe_slice (sl_anyK K) (pv 7) po_none (po_some (pv 6))) (pa_cons (pe_slice (sl_anyK K) (pv 7) (po_some (pv 6)) po_none) (pa_cons (pv 11) pa_nil)))))))))))))))), body_ok h (by decide) ?_⟩
  rintro as S P' - ⟨d, g, name, kind, rfl, hk, hB, k⟩
  walk_at "s"
  repeat walk_at "v"
  refine ⟨rfl, d, g, 3, rfl, by decide, by decide, hB, fun ns S1 hns hnd hnm hB1 hO1 => ?_⟩
  repeat walk_at "v"
  refine we_lst ?_
  repeat walk_at "v"
  refine ⟨sortsL, rfl, by show 3 ≤ 100000; decide, ?_⟩
  repeat walk_at "v"
  refine ⟨_, _, rfl, ?_⟩
  walk_at "n"
  repeat walk_at "v"
  refine ⟨rfl, d, g, 4, rfl, by decide, by decide, hB1, fun m0 S2 p0 p1 hB2 hO2 => ?_⟩
  walk_at "n"
  -- many, at least one for through
  repeat walk_at "v"
  refine WE.imp (P := fun a S' => S' = S2 ∧ ∃ m : Nat, m ≤ 3 ∧ (kind = "through" → 1 ≤ m) ∧ a = .dat (.int m)) ?_ ?_
  · refine we_if ?_
    repeat walk_at "v"
    refine ite2 (fun e => ?_) (fun e => ?_)
    · repeat walk_at "v"
      refine wc_max ?_
      refine ⟨rfl, (if 1 > m0 then 1 else m0).toNat, by split <;> omega, fun _ => by split <;> omega, ?_⟩
      rw [Int.toNat_of_nonneg (by split <;> omega)]
    · repeat walk_at "v"
      exact ⟨rfl, m0.toNat, by omega, fun z => absurd (decide_eq_true z) e, by rw [Int.toNat_of_nonneg p0]⟩
  rintro a' S3 ⟨rfl, m, hm3, hm1, rfl⟩
  walk_at "n"
  repeat walk_at "v"
  refine ⟨rfl, d, g, _, rfl, by omega, by omega, hB2, fun x0 S4 q0 q1 hB4 hO4 => ?_⟩
  repeat walk_at "v"
  walk_at "n"
  repeat walk_at "v"
  refine WE.imp (P := fun a S' => S' = S4 ∧ ∃ wd : Nat, wd ≤ m ∧ (kind = "through" → 1 ≤ wd) ∧ a = .dat (.int wd)) ?_ ?_
  · refine we_if ?_
    repeat walk_at "v"
    refine ite2 (fun e => ?_) (fun e => ?_)
    · have h1 := hm1 (of_decide_eq_true e)
      repeat walk_at "v"
      refine wc_max ?_
      refine ⟨rfl, (if 1 > (m : Int) - x0 then 1 else (m : Int) - x0).toNat, by split <;> omega, fun _ => by split <;> omega, ?_⟩
      rw [Int.toNat_of_nonneg (by split <;> omega)]
    · repeat walk_at "v"
      exact ⟨rfl, ((m : Int) - x0).toNat, by omega, fun z => absurd (decide_eq_true z) e, by rw [Int.toNat_of_nonneg (by omega)]⟩
  rintro a' S5 ⟨rfl, wd, hwm, hw1, rfl⟩
  walk_at "n"
  repeat walk_at "v"
  refine we_lstO ?_
  repeat walk_at "v"
  refine ⟨by decide, fun pf hpf => ?_⟩
  have npf := hB4.ne_new hpf
  repeat walk_at "v"
  refine ⟨_, _, rfl, ?_⟩
  walk_at "n"
  repeat walk_at "v"
  refine ws_for (wi_range ?_)
  repeat walk_at "v"
  have hOm : Only2 d g S S5 := (hO1.trans hO2).trans hO4
  refine ⟨by omega, fun i δ' S' => ∃ (l : List Pm) (late : Bool) (c9 c10 : Option AV), δ' = [some (.own d), some (.dat (.str name)), some (.dat (.str kind)), some (.dat (.list (ns.map PyData.str))), some (.dat (.list sortsL)), some (.dat (.int m)), some (.dat (.int wd)), some (.own pf), some (.dat (.bool late)), c9, c10, none]
    ∧ l.length = i ∧ SomeOk kind ns wd l late ∧ S' pf = some (.lst (dats (l.map Pm.d))) ∧ Box d g S' ∧ ∀ a, a ≠ d → a ≠ g → a ≠ pf → S' a = S5 a, ?_, ?_, ?_⟩
  · exact ⟨[], false, none, none, rfl, rfl, SomeOk.nil, set_same, hB4.set_ne' npf.1 npf.2, fun a _ _ h => set_ne h⟩
  · rintro i δ' S6 hi ⟨l, late, c9, c10, rfl, hli, hl, hp6, hB6, hO6⟩
    refine wg_name ?_
    walk_at "n"
    repeat walk_at "v"
    refine ⟨rfl, d, g, _, rfl, by show 0 < 3; decide, by show 3 < 1000000; decide, hB6, fun j x S7 hx hB7 hO7 => ?_⟩
    obtain ⟨st, rfl, hst⟩ := sorts_at hx
    walk_at "n"
    have hp7 := (box_keep hO7 npf).trans hp6
    have hO7' : ∀ a, a ≠ d → a ≠ g → a ≠ pf → S7 a = S5 a := fun a h1 h2 h3 => (hO7 a h1 h2).trans (hO6 a h1 h2 h3)
    refine ws_cut (fun δ' S' => ∃ c : Bool, (late = true → i < wd → c = true) ∧ δ' = [some (.own d), some (.dat (.str name)), some (.dat (.str kind)), some (.dat (.list (ns.map PyData.str))), some (.dat (.list sortsL)), some (.dat (.int m)), some (.dat (.int wd)), some (.own pf), some (.dat (.bool c)), some (.dat (.int i)), some (.dat (.str st)), none]
      ∧ S' pf = some (.lst (dats (l.map Pm.d))) ∧ Box d g S' ∧ ∀ a, a ≠ d → a ≠ g → a ≠ pf → S' a = S5 a) ?_ ?_
    · repeat walk_at "v"
      refine ⟨_, nw_dat, trivial, ite2 (fun e1 => ?_) (fun e1 => ?_)⟩
      · repeat walk_at "v"
        refine ⟨_, nw_dat, trivial, ite2 (fun e2 => ?_) (fun e2 => ?_)⟩
        · walk_at "n"
          exact ⟨_, fun _ _ => e2, rfl, hp7, hB7, hO7'⟩
        · repeat walk_at "v"
          refine ⟨rfl, d, g, 3, rfl, by decide, by decide, hB7, fun r S8 _ _ hB8 hO8 => ?_⟩
          repeat walk_at "v"
          walk_at "n"
          refine ⟨_, fun _ hiw => absurd (decide_eq_true (show (i : Int) < (wd : Int) by omega)) e2, rfl, (box_keep hO8 npf).trans hp7, hB8, fun a h1 h2 h3 => (hO8 a h1 h2).trans (hO7' a h1 h2 h3)⟩
      · repeat walk_at "v"
        refine ⟨_, nw_dat, trivial, ite2 (fun e2 => absurd e2 e1) (fun _ => ?_)⟩
        repeat walk_at "v"
        refine ⟨rfl, d, g, 3, rfl, by decide, by decide, hB7, fun r S8 _ _ hB8 hO8 => ?_⟩
        repeat walk_at "v"
        walk_at "n"
        exact ⟨_, fun hl _ => absurd hl e1, rfl, (box_keep hO8 npf).trans hp7, hB8, fun a h1 h2 h3 => (hO8 a h1 h2).trans (hO7' a h1 h2 h3)⟩
    rintro δ' S8 ⟨c, hc, rfl, hp8, hB8, hO8⟩
    refine ws_cut (fun δ' S' => S' = S8 ∧ δ' = [some (.own d), some (.dat (.str name)), some (.dat (.str kind)), some (.dat (.list (ns.map PyData.str))), some (.dat (.list sortsL)), some (.dat (.int m)), some (.dat (.int wd)), some (.own pf), some (.dat (.bool (c && !(decide (kind = "through") && decide (i = 0))))), some (.dat (.int i)), some (.dat (.str st)), none]) ?_ ?_
    · have ei : decide ((i : Int) = 0) = decide (i = 0) := by simp
      repeat walk_at "v"
      refine ⟨_, nw_dat, trivial, ite2 (fun e1 => ?_) (fun e1 => ?_)⟩
      · have e1' : c = true := e1
        subst e1'
        repeat walk_at "v"
        refine ⟨_, nw_dat, trivial, ite2 (fun e2 => ?_) (fun e2 => ?_)⟩
        · have e2' : decide (kind = "through") = true := e2
          repeat walk_at "v"
          refine ⟨_, nw_dat, trivial, ?_⟩
          walk_at "n"
          refine ⟨rfl, ?_⟩
          rw [e2', ← ei]
          rfl
        · have e2' : decide (kind = "through") = false := Bool.eq_false_iff.mpr e2
          refine ⟨_, nw_dat, trivial, ?_⟩
          walk_at "n"
          refine ⟨rfl, ?_⟩
          rw [e2']
          rfl
      · have e1' : c = false := Bool.eq_false_iff.mpr e1
        subst e1'
        walk_at "n"
        exact ⟨rfl, rfl⟩
    rintro δ' S9 ⟨rfl, rfl⟩
    generalize hc2 : (c && !(decide (kind = "through") && decide (i = 0))) = c2
    repeat walk_at "v"
    refine we_append ?_
    repeat walk_at "v"
    refine ⟨⟨_, hp8⟩, ?_⟩
    repeat walk_at "v"
    refine w2_ixL nw_dat (i := i) (d := .str (ns[i]'(by omega))) (by simp [show i < ns.length by omega]) ?_
    repeat walk_at "v"
    refine we_if ?_
    repeat walk_at "v"
    refine ⟨_, nw_dat, trivial, ite2 (fun e1 => ?_) (fun e1 => ?_)⟩
    · have e1' : c2 = true := e1
      repeat walk_at "v"
      refine ⟨rfl, d, g, st, rfl, hst, hB8, fun v S10 hv hB10 hO10 => ?_⟩
      repeat walk_at "v"
      refine ⟨[.str (ns[i]'(by omega)), .str st, v], rfl, by show 3 ≤ 100000; decide, ?_⟩
      repeat walk_at "v"
      have hp10 := (box_keep hO10 npf).trans hp8
      refine ⟨_, _, rfl, hp10, by simp [dats]; omega, ?_⟩
      repeat walk_at "v"
      refine ⟨l ++ [⟨ns[i]'(by omega), st, v⟩], c2, _, _, rfl, by simp [hli], ?_, by rw [set_same, List.map_append]; exact congrArg (fun z => some (AO.lst z)) (dats_map _ _).symm, hB10.set_ne' npf.1 npf.2, fun a h1 h2 h3 => (set_ne h3).trans ((hO10 a h1 h2).trans (hO8 a h1 h2 h3))⟩
      exact hl.snoc hli (by simp) hst hc hc2 (.inl ⟨e1', hv⟩)
    · have e1' : c2 = false := Bool.eq_false_iff.mpr e1
      repeat walk_at "v"
      refine ⟨[.str (ns[i]'(by omega)), .str st, .none], rfl, by show 3 ≤ 100000; decide, ?_⟩
      repeat walk_at "v"
      refine ⟨_, _, rfl, hp8, by simp [dats]; omega, ?_⟩
      repeat walk_at "v"
      refine ⟨l ++ [⟨ns[i]'(by omega), st, .none⟩], c2, _, _, rfl, by simp [hli], ?_, by rw [set_same, List.map_append]; exact congrArg (fun z => some (AO.lst z)) (dats_map _ _).symm, hB8.set_ne' npf.1 npf.2, fun a h1 h2 h3 => (set_ne h3).trans (hO8 a h1 h2 h3)⟩
      exact hl.snoc hli (by simp) hst hc hc2 (.inr ⟨e1', rfl⟩)
  · rintro δ' S6 ⟨l, late, c9, c10, rfl, hli, hl, hp6, hB6, hO6⟩
    refine ws_freeze 7 rfl hp6 ?_
    walk_at "n"
    have hD : Only2 d g S (S6.del pf) := fun a h1 h2 => by
      by_cases e : a = pf
      · subst e
        rw [Ov.del_same, ← hOm a h1 h2, hpf]
      · rw [Ov.del_ne e, hO6 a h1 h2 e, hOm a h1 h2]
    have hBD : Box d g (S6.del pf) := hB6.del_ne' npf.1 npf.2
    refine ws_cut (fun δ' S' => ∃ o, sortOk o ∧ (kind = "through" → ∃ p, l[0]? = some p ∧ o = p.s) ∧ Box d g S' ∧ Only2 d g S S' ∧ δ' = [some (AV.own d), some (AV.dat (PyData.str name)), some (AV.dat (PyData.str kind)),
      some (AV.dat (PyData.list (List.map PyData.str ns))), some (AV.dat (PyData.list sortsL)),
      some (AV.dat (PyData.int m)), some (AV.dat (PyData.int wd)), some (AV.dat (PyData.list (List.map Pm.d l))),
      some (AV.dat (PyData.bool late)), c9, c10, some (.dat (.str o))]) ?_ ?_
    · repeat walk_at "v"
      refine we_if ?_
      repeat walk_at "v"
      refine ite2 (fun e => ?_) (fun e => ?_)
      · have e0 : kind = "through" := of_decide_eq_true e
        have h0 : 0 < l.length := by have := hw1 e0; omega
        repeat walk_at "v"
        refine w2_ixL nw_dat (i := 0) (d := (l[0]'h0).d) (by simp [h0]) ?_
        repeat walk_at "v"
        refine w2_ixT (i := 1) (d := .str (l[0]'h0).s) rfl ?_
        walk_at "n"
        exact ⟨_, hl.st _ (List.getElem_mem h0), fun _ => ⟨_, List.getElem?_eq_getElem h0, rfl⟩, hBD, hD, rfl⟩
      · repeat walk_at "v"
        refine ⟨rfl, d, g, _, rfl, by show 0 < 3; decide, by show 3 < 1000000; decide, hBD, fun i x S7 hx hB7 hO7 => ?_⟩
        obtain ⟨st, rfl, hst⟩ := sorts_at hx
        walk_at "n"
        exact ⟨_, hst, fun z => absurd (decide_eq_true z) e, hB7, fun a h1 h2 => (hO7 a h1 h2).trans (hD a h1 h2), rfl⟩
    rintro δ' S7 ⟨o, ho, hot, hB7, hO7, rfl⟩
    repeat walk_at "v"
    refine wl_L nw_dat ?_
    repeat walk_at "v"
    refine wl_L nw_dat ?_
    repeat walk_at "v"
    refine ⟨[.str name, .str kind, .list _, .list _, .str o], rfl, by show 5 ≤ 100000; decide, ?_⟩
    rw [cut_to, cut_from, ← List.map_take, ← List.map_drop]
    refine k _ _ o _ ⟨?_, ?_, ?_, ?_, ?_, ?_, ?_, ho⟩ hB7 hO7
    · rw [← List.length_append, List.take_append_drop]; omega
    · rw [List.take_append_drop]
      have e : l.map (·.n) = ns.take m := by
        apply List.ext_getElem?
        intro i
        rw [List.getElem?_map]
        by_cases hi : i < l.length
        · rw [List.getElem?_eq_getElem hi, List.getElem?_take_of_lt (by omega), hl.nm i _ (List.getElem?_eq_getElem hi)]; rfl
        · rw [List.getElem?_eq_none (by omega), List.getElem?_eq_none (by simp; omega)]; rfl
      rw [e]
      exact hnd.sublist (List.take_sublist _ _)
    · rw [List.take_append_drop]
      intro p hp
      obtain ⟨i, hi, e⟩ := List.getElem_of_mem hp
      exact hnm _ (List.mem_of_getElem? (hl.nm i p (by rw [List.getElem?_eq_getElem hi, e])))
    · rw [List.take_append_drop]; exact hl.st
    · rw [List.take_append_drop]; exact hl.vl
    · intro i j p q hij hi hj
      have hjw : j < wd := by
        by_cases z : j < wd
        · exact z
        · rw [List.getElem?_eq_none (by simp; omega)] at hj; cases hj
      rw [List.getElem?_take_of_lt hjw] at hj
      rw [List.getElem?_take_of_lt (by omega)] at hi
      exact hl.mono i j p q hij hjw hi hj
    · intro ht
      obtain ⟨p, hp, e⟩ := hot ht
      have := hw1 ht
      have h0 := hl.thr ht p hp
      match l, hp with
      | p' :: r, hp =>
        cases hp
        obtain ⟨w', rfl⟩ : ∃ w', wd = w' + 1 := ⟨wd - 1, by omega⟩
        exact ⟨p, r.take w', rfl, h0, e⟩
end
end Hk
namespace Hk
open PySem PySem.Spec PyProof.Rows L2 Ov
abbrev s_is_integer : Stmt := topS 8
theorem sc_is_integer : FnScope ["thing"] ["thing"] (defScope s_is_integer) := ⟨rfl, rfl, rfl, by decide +kernel, rfl, by decide +kernel, by decide +kernel⟩
abbrev s_is_name : Stmt := topS 9
theorem sc_is_name : FnScope ["thing"] ["thing"] (defScope s_is_name) := ⟨rfl, rfl, rfl, by decide +kernel, rfl, by decide +kernel, by decide +kernel⟩
abbrev s_has_sort : Stmt := topS 10
theorem sc_has_sort : FnScope ["thing", "sort"] ["thing", "sort"] (defScope s_has_sort) := ⟨rfl, rfl, rfl, by decide +kernel, rfl, by decide +kernel, by decide +kernel⟩
abbrev s_triple : Stmt := topS 16
theorem sc_triple : FnScope ["param"] ["param"] (defScope s_triple) := ⟨rfl, rfl, rfl, by decide +kernel, rfl, by decide +kernel, by decide +kernel⟩
local macro_rules | `(tactic| walk_at "w") => `(tactic| with_reducible first
  | refine iteT ?_ | refine iteF ?_
  | refine ws_seq ?_ | refine ws_if ?_ | refine ws_set ?_ | refine ws_ret ?_ | refine ws_drop ?_ | refine ws_next ?_ | refine ws_dputS ?_ | refine we_andT ?_ | refine we_orT ?_
  | refine wt_test ?_ | refine wt_and ?_ | refine wt_or ?_ | refine wt_not ?_ | refine wt_truK ?_ | refine wt_B ?_
  | refine we_op ?_ | refine we_cb ?_ | refine we_dgetS ?_ | refine wa_cons ?_ | refine wa_nil ?_ | refine we_var rfl ?_ | refine we_int ?_ | refine we_str ?_ | refine we_bl ?_ | refine we_non ?_ | refine we_ty ?_
  | refine w2_addI ?_ | refine w2_eqS ?_ | refine w2_neS ?_ | refine w2_eqI ?_ | refine w2_neI ?_ | refine w2_sub ?_ | refine w2_I0 ?_ | refine we_call ?_ | refine we_un ?_ | refine w1_neg ?_ | refine we_sl ?_ | refine wo_none ?_ | refine wo_some ?_ | refine we_notT ?_ | refine we_if ?_ | refine we_join ?_ | refine we_split ?_ | refine we_tup ?_ | refine wt_yes ?_ | refine ⟨_, rfl, ?_⟩)
local macro_rules | `(tactic| walk_at "v") => `(tactic| with_reducible first
  | refine iteT ?_ | refine iteF ?_
  | refine ws_seq ?_ | refine ws_par ?_ | refine ws_set ?_ | refine ws_ret ?_ | refine ws_drop ?_ | refine ws_next ?_ | refine ws_dputS ?_ | refine we_andT ?_ | refine we_orT ?_
  | refine wt_test ?_ | refine wt_and ?_ | refine wt_or ?_ | refine wt_not ?_ | refine wt_truK ?_ | refine wt_B ?_
  | refine we_op ?_ | refine we_cb ?_ | refine we_dgetS ?_ | refine wa_cons ?_ | refine wa_nil ?_ | refine we_var rfl ?_ | refine we_int ?_ | refine we_str ?_ | refine we_bl ?_ | refine we_non ?_ | refine we_ty ?_
  | refine w2_addI ?_ | refine w2_eqS ?_ | refine w2_neS ?_ | refine w2_eqI ?_ | refine w2_neI ?_ | refine w2_sub ?_ | refine w2_I0 ?_ | refine we_call ?_ | refine we_un ?_ | refine w1_neg ?_ | refine we_sl ?_ | refine wo_none ?_ | refine wo_some ?_ | refine we_notT ?_ | refine we_join ?_ | refine we_split ?_ | refine we_tup ?_ | refine wt_yes ?_ | refine ⟨_, rfl, ?_⟩)
local macro_rules | `(tactic| walk_at "s") => `(tactic| simp only [nox_K, cx_K, startA, List.map_cons, List.map_nil, List.length_cons, List.length_nil, List.cons_append, List.nil_append, Nat.reduceAdd, Nat.reduceSub, List.reduceReplicate])
local macro_rules | `(tactic| walk_at "n") => `(tactic| (try dsimp only [wipeD, List.set_cons_zero, List.set_cons_succ]))
local macro_rules | `(tactic| walk_at "bg") => `(tactic| ((repeat walk_at "w"); refine ⟨_, _, _, _, rfl, rfl, by first | assumption | exact set_same, by first | exact box_great | exact box_now | exact box_seed | exact box_turn | exact wld_tests | exact wld_params | exact wld_plus | exact wld_gives, ?_⟩; (repeat walk_at "w")))
local macro_rules | `(tactic| walk_at "bp") => `(tactic| ((repeat walk_at "w"); refine ⟨_, _, _, rfl, rfl, by first | assumption | exact set_same, by first | exact box_len | exact wld_len, ?_⟩; first | rw [box_now_put] | rw [box_seed_put] | rw [box_turn_put] | rw [wld_tests_put] | rw [wld_plus_put]))
local macro_rules | `(tactic| walk_at "t") => `(tactic| first | refine ⟨_, dc dn, dl rfl, ?_⟩ | refine ⟨_, dc (dc dn), dl rfl, ?_⟩ | refine ⟨_, dc (dc (dc dn)), dl rfl, ?_⟩ | refine ⟨_, dc (dc (dc (dc dn))), dl rfl, ?_⟩ | refine ⟨_, dc (dc (dc (dc (dc dn)))), dl rfl, ?_⟩)

section
variable {P : Program} {w : World} {K : PySem.W.Frag} {mg : Str → Option Value} {base : Heap}
theorem ok_is_integer {f : Addr} {fd : FuncData} (T : Txt K mg) (F : Df K mg "is_integer" ["thing"] s_is_integer f fd) : Cal P w K mg base 1 "is_integer" (SpA K 1 spIsInt) := by
  have nd := sc_is_integer.nd
  refine F.cal sc_is_integer (fun vs H Q E h => h.1) (fun cdv A outer s H vs Q E hr h => ?_)
  have hu := hu_of hr
  refine ⟨_, (pss_one (ps_ret (pe_andK K (pe_callB (call_isiK' (K := K)) (by rfl) T.b_isinstance (by decide +kernel) (pa_cons (pv 0) (pa_cons (pe_bltn (v := .ty "int") (u := .type "int") (by rfl) T.b_int (by decide +kernel) rfl) pa_nil))) (pe_one (pe_notK K (pe_callB (call_isiK' (K := K)) (by rfl) T.b_isinstance (by decide +kernel) (pa_cons (pv 0) (pa_cons (pe_bltn (v := .ty "bool") (u := .type "bool") (by rfl) T.b_bool (by decide +kernel) rfl) pa_nil)))))))), body_ok h (by decide) ?_⟩
  rintro as S P' - ⟨d, rfl, k⟩
  walk_at "s"
  repeat walk_at "v"
  refine wc_isi nw_dat (kit_int d) ?_
  refine ⟨_, nw_dat, trivial, ite2 (fun e => ?_) (fun e => ?_)⟩
  · repeat walk_at "v"
    refine wc_isi nw_dat (kit_bool d) ?_
    refine ⟨_, nw_dat, trivial, ?_⟩
    cases d <;> first | exact k | exact absurd e (by simp [truD, isIntB])
  · cases d <;> first | exact k | exact absurd (by rfl) e
theorem ok_is_name {f : Addr} {fd : FuncData} {uL : Value} (T : Txt K mg) (g__LONGEST_NAME : mg "_LONGEST_NAME" = some uL) (r__LONGEST_NAME : RelV (.int 8) uL) (F : Df K mg "is_name" ["thing"] s_is_name f fd) : Cal P w K mg base 1 "is_name" (SpA K 1 spIsName) := by
  have nd := sc_is_name.nd
  refine F.cal sc_is_name (fun vs H Q E h => h.1) (fun cdv A outer s H vs Q E hr h => ?_)
  have hu := hu_of hr
  refine ⟨_, (pss_cons (ps_if (PW.pt (pw_or (pt_not (pt_truK K (pe_callB (call_isiK' (K := K)) (by rfl) T.b_isinstance (by decide +kernel) (pa_cons (pv 0) (pa_cons (pe_bltn (v := .ty "str") (u := .type "str") (by rfl) T.b_str (by decide +kernel) rfl) pa_nil))) (by intro _; rfl))) (pw_or1 (pt_cmpR (op_gt) (pe_callB (call_lenK K) (by rfl) T.b_len (by decide +kernel) (pa_cons (pv 0) pa_nil)) (pe_glob rfl g__LONGEST_NAME r__LONGEST_NAME) (nomark _)))))
 (pss_one (ps_ret pe_bl))
 pss_nil)
 (pss_one (ps_ret (pe_andK K (pe_bm0K K PySem.F.plainAttrs_str PySem.F.slot_str_isascii PySem.F.type_str_isascii mt_isascii (pv 0)) (pe_andK K (pe_bm0K K PySem.F.plainAttrs_str PySem.F.slot_str_isalpha PySem.F.type_str_isalpha mt_isalpha (pv 0)) (pe_one (pe_bm0K K PySem.F.plainAttrs_str PySem.F.slot_str_islower PySem.F.type_str_islower mt_islower (pv 0)))))))), body_ok h (by decide) ?_⟩
  rintro as S P' - ⟨d, rfl, hd, k⟩
  walk_at "s"
  refine ws_seq (ws_if (wt_cut (fun b S' => S' = S ∧ b = !(isStrB d && (match d with | .str z => decide (z.length ≤ 8) | _ => true))) ?_ ?_))
  · repeat walk_at "v"
    refine wc_isi nw_dat (kit_str d) ?_
    refine ⟨_, nw_dat, trivial, ite2 (fun e => ?_) (fun e => ?_)⟩
    · cases d <;> first | exact ⟨rfl, rfl⟩ | exact absurd e (by simp [truD, isStrB])
    · cases d with
      | str z =>
        repeat walk_at "v"
        refine wc_len (.inr (.inr ⟨z, rfl, hd, rfl⟩)) ?_
        repeat walk_at "v"
        refine ⟨rfl, ?_⟩
        by_cases hz : z.length ≤ 8
        · have h1 : ¬ ((8 : Int) < (z.length : Int)) := by omega
          simp [isStrB, hz]
          omega
        · have h1 : ((8 : Int) < (z.length : Int)) := by omega
          simp [isStrB, hz]
          omega
      | _ => exact absurd (by simp [truD, isStrB]) e
  rintro b S' ⟨rfl, rfl⟩
  refine ite2 (fun e => ?_) (fun e => ?_)
  · repeat walk_at "v"
    cases d with
    | str z =>
      have h8 : ¬ z.length ≤ 8 := by simpa [isStrB] using e
      have e2 : isNameD (.str z) = false := by simp [isNameD, isNameS, h8]
      rw [e2] at k
      exact k
    | _ => exact k
  · cases d with
    | str z =>
      have h8 : z.length ≤ 8 := by simpa [isStrB] using e
      repeat walk_at "v"
      refine we_sm0 ?_
      repeat walk_at "v"
      refine ⟨_, nw_dat, trivial, ite2 (fun e1 => ?_) (fun e1 => ?_)⟩
      · repeat walk_at "v"
        refine we_sm0 ?_
        repeat walk_at "v"
        refine ⟨_, nw_dat, trivial, ite2 (fun e2 => ?_) (fun e2 => ?_)⟩
        · repeat walk_at "v"
          refine we_sm0 ?_
          repeat walk_at "v"
          have q1 : Txt.isascii z = true := by simpa [truD] using e1
          have q2 : Txt.isalpha z = true := by simpa [truD] using e2
          have e3 : isNameD (.str z) = Txt.islower z := by simp [isNameD, isNameS, h8, q1, q2]
          rw [e3] at k
          exact k
        · have q1 : Txt.isascii z = true := by simpa [truD] using e1
          have q2 : Txt.isalpha z = false := by simpa [truD] using e2
          have e3 : isNameD (.str z) = false := by simp [isNameD, isNameS, q2]
          rw [e3] at k
          rw [q2]
          exact k
      · have q1 : Txt.isascii z = false := by simpa [truD] using e1
        have e3 : isNameD (.str z) = false := by simp [isNameD, isNameS, q1]
        rw [e3] at k
        rw [q1]
        exact k
    | _ => exact absurd rfl e
theorem ok_has_sort {f : Addr} {fd : FuncData} (T : Txt K mg) (F : Df K mg "has_sort" ["thing", "sort"] s_has_sort f fd) (c_is_integer : Cal P w K mg base 1 "is_integer" (SpA K 1 spIsInt)) (c_is_name : Cal P w K mg base 1 "is_name" (SpA K 1 spIsName)) : Cal P w K mg base 2 "has_sort" (SpA K 2 spHasSort) := by
  have nd := sc_has_sort.nd
  refine F.cal sc_has_sort (fun vs H Q E h => h.1) (fun cdv A outer s H vs Q E hr h => ?_)
  have hu := hu_of hr
  refine ⟨_, (pss_cons (ps_if (pt_cmpR (op_eqK K hr.units) (pv 1) pe_str (nomark _))
 (pss_one (ps_ret (pe_c c_is_integer hr (by omega) rfl (pa_cons (pv 0) pa_nil))))
 pss_nil)
 (pss_one (ps_ret (pe_c c_is_name hr (by omega) rfl (pa_cons (pv 0) pa_nil))))), body_ok h (by decide) ?_⟩
  rintro as S P' - ⟨d, st, rfl, hd, k⟩
  walk_at "s"
  unfold hasSortD at k
  repeat walk_at "v"
  refine ws_if ?_
  repeat walk_at "v"
  refine ite2 (fun e => ?_) (fun e => ?_)
  · rw [if_pos (of_decide_eq_true e)] at k
    repeat walk_at "v"
    exact ⟨rfl, d, rfl, k⟩
  · rw [if_neg (fun z => e (decide_eq_true z))] at k
    repeat walk_at "v"
    exact ⟨rfl, d, rfl, hd, k⟩
theorem ok_triple {f : Addr} {fd : FuncData} (T : Txt K mg) (F : Df K mg "_triple" ["param"] s_triple f fd) : Cal P w K mg base 1 "_triple" (SpA K 1 spTriple) := by
  have nd := sc_triple.nd
  refine F.cal sc_triple (fun vs H Q E h => h.1) (fun cdv A outer s H vs Q E hr h => ?_)
  have hu := hu_of hr
  refine ⟨_, (pss_cons (ps_if (pt_cmpR (op_eqK K hr.units) (pe_callB (call_lenK K) (by rfl) T.b_len (by decide +kernel) (pa_cons (pv 0) pa_nil)) pe_int (nomark _))
 (pss_one (ps_ret (pe_tup (pa_cons (pe_ix (ix_seqK K) (pv 0) pe_int (fun _ _ => rfl)) (pa_cons (pe_ix (ix_seqK K) (pv 0) pe_int (fun _ _ => rfl)) (pa_cons pe_non pa_nil))))))
 pss_nil)
 (pss_one (ps_ret (pe_tup (pa_cons (pe_ix (ix_seqK K) (pv 0) pe_int (fun _ _ => rfl)) (pa_cons (pe_ix (ix_seqK K) (pv 0) pe_int (fun _ _ => rfl)) (pa_cons (pe_ix (ix_seqK K) (pv 0) pe_int (fun _ _ => rfl)) pa_nil))))))), body_ok h (by decide) ?_⟩
  rintro as S P' - ⟨d, p, rfl, ht, k⟩
  walk_at "s"
  rcases ht with rfl | ⟨hn, rfl⟩
  · repeat walk_at "v"
    refine ws_if ?_
    repeat walk_at "v"
    refine wc_len (.inr (.inl ⟨[.str p.n, .str p.s, p.v], nw_dat, rfl⟩)) ?_
    repeat walk_at "v"
    refine ite2 (fun e => absurd e (by simp)) (fun _ => ?_)
    repeat walk_at "v"
    refine w2_ixT (i := 0) (d := .str p.n) rfl ?_
    repeat walk_at "v"
    refine w2_ixT (i := 1) (d := .str p.s) rfl ?_
    repeat walk_at "v"
    refine w2_ixT (i := 2) (d := p.v) rfl ?_
    repeat walk_at "v"
    exact ⟨_, dc (dc (dc dn)), dl rfl, k⟩
  · repeat walk_at "v"
    refine ws_if ?_
    repeat walk_at "v"
    refine wc_len (.inr (.inl ⟨[.str p.n, .str p.s], nw_dat, rfl⟩)) ?_
    repeat walk_at "v"
    refine ite2 (fun _ => ?_) (fun e => absurd (by simp) e)
    repeat walk_at "v"
    refine w2_ixT (i := 0) (d := .str p.n) rfl ?_
    repeat walk_at "v"
    refine w2_ixT (i := 1) (d := .str p.s) rfl ?_
    repeat walk_at "v"
    have e : p.d = .tuple [.str p.n, .str p.s, .none] := by unfold Pm.d; rw [hn]
    rw [e] at k
    exact ⟨_, dc (dc (dc dn)), dl rfl, k⟩
end
end Hk
namespace Hk
open PySem PySem.Spec PyProof.Rows L2 Ov
abbrev s_fault_of_param : Stmt := topS 18
theorem sc_fault_of_param : FnScope ["hook", "at", "name", "sort", "default", "param"] ["hook", "at"] (defScope s_fault_of_param) := ⟨rfl, rfl, rfl, by decide +kernel, rfl, by decide +kernel, by decide +kernel⟩
abbrev s_check_hook : Stmt := topS 17
theorem sc_check_hook : FnScope ["hook", "at", "name", "word"] ["hook"] (defScope s_check_hook) := ⟨rfl, rfl, rfl, by decide +kernel, rfl, by decide +kernel, by decide +kernel⟩
local macro_rules | `(tactic| walk_at "w") => `(tactic| with_reducible first
  | refine iteT ?_ | refine iteF ?_
  | refine ws_seq ?_ | refine ws_if ?_ | refine ws_set ?_ | refine ws_ret ?_ | refine ws_drop ?_ | refine ws_next ?_ | refine ws_dputS ?_ | refine we_andT ?_ | refine we_orT ?_
  | refine wt_test ?_ | refine wt_and ?_ | refine wt_or ?_ | refine wt_not ?_ | refine wt_truK ?_ | refine wt_B ?_
  | refine we_op ?_ | refine we_cb ?_ | refine we_dgetS ?_ | refine wa_cons ?_ | refine wa_nil ?_ | refine we_var rfl ?_ | refine we_int ?_ | refine we_str ?_ | refine we_bl ?_ | refine we_non ?_ | refine we_ty ?_
  | refine w2_addI ?_ | refine w2_eqS ?_ | refine w2_neS ?_ | refine w2_eqI ?_ | refine w2_neI ?_ | refine w2_sub ?_ | refine w2_I0 ?_ | refine we_call ?_ | refine we_un ?_ | refine w1_neg ?_ | refine we_sl ?_ | refine wo_none ?_ | refine wo_some ?_ | refine we_notT ?_ | refine we_if ?_ | refine we_join ?_ | refine we_split ?_ | refine we_tup ?_ | refine wt_yes ?_ | refine ⟨_, rfl, ?_⟩)
local macro_rules | `(tactic| walk_at "v") => `(tactic| with_reducible first
  | refine iteT ?_ | refine iteF ?_
  | refine ws_seq ?_ | refine ws_par ?_ | refine ws_set ?_ | refine ws_ret ?_ | refine ws_drop ?_ | refine ws_next ?_ | refine ws_dputS ?_ | refine we_andT ?_ | refine we_orT ?_
  | refine wt_test ?_ | refine wt_and ?_ | refine wt_or ?_ | refine wt_not ?_ | refine wt_truK ?_ | refine wt_B ?_
  | refine we_op ?_ | refine we_cb ?_ | refine we_dgetS ?_ | refine wa_cons ?_ | refine wa_nil ?_ | refine we_var rfl ?_ | refine we_int ?_ | refine we_str ?_ | refine we_bl ?_ | refine we_non ?_ | refine we_ty ?_
  | refine w2_addI ?_ | refine w2_eqS ?_ | refine w2_neS ?_ | refine w2_eqI ?_ | refine w2_neI ?_ | refine w2_sub ?_ | refine w2_I0 ?_ | refine we_call ?_ | refine we_un ?_ | refine w1_neg ?_ | refine we_sl ?_ | refine wo_none ?_ | refine wo_some ?_ | refine we_notT ?_ | refine we_join ?_ | refine we_split ?_ | refine we_tup ?_ | refine wt_yes ?_ | refine ⟨_, rfl, ?_⟩)
local macro_rules | `(tactic| walk_at "s") => `(tactic| simp only [nox_K, cx_K, startA, List.map_cons, List.map_nil, List.length_cons, List.length_nil, List.cons_append, List.nil_append, Nat.reduceAdd, Nat.reduceSub, List.reduceReplicate])
local macro_rules | `(tactic| walk_at "n") => `(tactic| (try dsimp only [wipeD, List.set_cons_zero, List.set_cons_succ]))
local macro_rules | `(tactic| walk_at "bg") => `(tactic| ((repeat walk_at "w"); refine ⟨_, _, _, _, rfl, rfl, by first | assumption | exact set_same, by first | exact box_great | exact box_now | exact box_seed | exact box_turn | exact wld_tests | exact wld_params | exact wld_plus | exact wld_gives, ?_⟩; (repeat walk_at "w")))
local macro_rules | `(tactic| walk_at "bp") => `(tactic| ((repeat walk_at "w"); refine ⟨_, _, _, rfl, rfl, by first | assumption | exact set_same, by first | exact box_len | exact wld_len, ?_⟩; first | rw [box_now_put] | rw [box_seed_put] | rw [box_turn_put] | rw [wld_tests_put] | rw [wld_plus_put]))
local macro_rules | `(tactic| walk_at "t") => `(tactic| first | refine ⟨_, dc dn, dl rfl, ?_⟩ | refine ⟨_, dc (dc dn), dl rfl, ?_⟩ | refine ⟨_, dc (dc (dc dn)), dl rfl, ?_⟩ | refine ⟨_, dc (dc (dc (dc dn))), dl rfl, ?_⟩ | refine ⟨_, dc (dc (dc (dc (dc dn)))), dl rfl, ?_⟩)

section
variable {P : Program} {w : World} {K : PySem.W.Frag} {mg : Str → Option Value} {base : Heap}
theorem ok_fault {f pK pS C : Addr} {fd : FuncData} (T : Txt K mg) (hC : HookC K C) (g_KEPT : mg "KEPT" = some (.ref pK)) (k_KEPT : TupK K pK keptT) (g_SORTS : mg "SORTS" = some (.ref pS)) (k_SORTS : TupK K pS sortsT) (F : Df K mg "_fault_of_param" ["hook", "at"] s_fault_of_param f fd)
    (c_is_name : Cal P w K mg base 1 "is_name" (SpA K 1 spIsName)) (c_has_sort : Cal P w K mg base 2 "has_sort" (SpA K 2 spHasSort)) : Cal P w K mg base 3 "_fault_of_param" (SpA K 2 (spFault C)) := by
  have nd := sc_fault_of_param.nd
  have r_KEPT : RelV (.ref pK) (.ref pK) := rfl
  have r_SORTS : RelV (.ref pS) (.ref pS) := rfl
  refine F.cal sc_fault_of_param (fun vs H Q E h => h.1) (fun cdv A outer s H vs Q E hr h => ?_)
  have hu := hu_of hr
  refine ⟨_, (pss_cons (ps_asg (pe_ix (ix_seqK K) (pe_op (op_addK K) (pe_fldK K (pv 0) rfl) (pe_fldK K (pv 0) rfl)) (pv 1) (fun _ _ => rfl)) (pg_tupK (n := 3) K rfl (pgs_cons (pg_name (i := 2) nd rfl (Or.inl rfl)) (pgs_cons (pg_name (i := 3) nd rfl (Or.inl rfl)) (pgs_cons (pg_name (i := 4) nd rfl (Or.inl rfl)) pgs_nil)))))
 (pss_cons (ps_if (PW.pt (pw_or (pt_not (pt_truK K (pe_c c_is_name hr (by omega) rfl (pa_cons (pv 2) pa_nil)) (by intro _; rfl))) (pw_or1 (pt_cmpR (op_inK K) (pv 2) (pe_glob rfl g_KEPT r_KEPT) (by rfl)))))
 (pss_one (ps_ret pe_str))
 pss_nil)
 (pss_cons (ps_if (pt_cmpR (op_inK K) (pv 2) (pe_slice (sl_anyK K) (pe_fldK K (pv 0) rfl) po_none (po_some (pv 1))) (by rfl))
 (pss_one (ps_ret pe_str))
 pss_nil)
 (pss_cons (ps_if (pt_cmpR (op_notInK K) (pv 3) (pe_glob rfl g_SORTS r_SORTS) (by rfl))
 (pss_one (ps_ret pe_str))
 pss_nil)
 (pss_cons (ps_if (pt_cmpR (op_notN) (pv 4) pe_non (nomark _))
 (pss_one (ps_ret (pe_ifExp (pt_truK K (pe_c c_has_sort hr (by omega) rfl (pa_cons (pv 4) (pa_cons (pv 3) pa_nil))) (by intro _; rfl)) pe_non pe_str)))
 pss_nil)
 (pss_cons (ps_if (PW.pt (pw_and (pt_cmpR (op_lt) (pv 1) (pe_callB (call_lenK K) (by rfl) T.b_len (by decide +kernel) (pa_cons (pe_fldK K (pv 0) rfl) pa_nil)) (nomark _)) (pw_and1 (pt_truK K (pe_callB (call_anyK rfl) (by rfl) T.b_any (by decide +kernel) (pa_cons (pe_lc (own := [("param", 5)]) (g := gName 5) (by rfl) nd (pi_tupK K (pe_slice (sl_anyK K) (pe_fldK K (pv 0) rfl) po_none (po_some (pv 1)))) (blkOk_by (own := [("param", 5)]) (N := ["hook", "at", "name", "sort", "default", "param"]) (sc := defScope s_fault_of_param) (by decide +kernel)) (fun _ _ _ _ _ => (pg_name (i := 5) nd rfl (Or.inl rfl))) (fun _ _ _ _ _ => pts_nil) (fun _ _ _ _ _ => (pe_cmpR (op_notN) (pe_ix (ix_seqK K) (pv 5) pe_int (fun _ _ => rfl)) pe_non (nomark _)))) pa_nil)) (by intro _; rfl)))))
 (pss_one (ps_ret pe_str))
 pss_nil)
 (pss_one (ps_ret pe_non)))))))), body_ok h (by decide) ?_⟩
  rintro as S P' - ⟨q, name, kind, gives, ps, qs, i, rfl, hh, hi, hq, k⟩
  obtain ⟨f1, f2, f3, f4, f5, f6⟩ := fld_hook (name := name) (kind := kind) (gives := gives) (ps := ps) (qs := qs)
  walk_at "s"
  have hpi : i < (ps ++ qs).length := by rw [List.length_append]; exact hi
  have hmem := List.getElem_mem hpi
  generalize hp : (ps ++ qs)[i] = p at hmem
  obtain ⟨hn1, hn2⟩ := hh.nm p hmem
  have hst := hh.st p hmem
  have hln := hh.len
  refine ws_seq (ws_asg ?_)
  repeat walk_at "v"
  refine we_fld (we_var rfl ?_)
  refine ⟨q, C, _, _, rfl, hq, hC.cl, hC.n4, f4, ?_⟩
  refine we_fld (we_var rfl ?_)
  refine ⟨q, C, _, _, rfl, hq, hC.cl, hC.n5, f5, ?_⟩
  refine w2_addT (by simp; omega) ?_
  rw [← List.map_append]
  repeat walk_at "v"
  refine w2_ixT (i := i) (d := p.d) (by rw [List.getElem?_map, List.getElem?_eq_getElem hpi, hp]; rfl) ?_
  refine wg_tup (n := 3) rfl ?_
  refine wgs_cons (wg_name ?_)
  refine wgs_cons (wg_name ?_)
  refine wgs_cons (wg_name ?_)
  refine wgs_nil ?_
  walk_at "n"
  refine ws_seq (ws_if (wt_cut (fun b S' => S' = S ∧ b = false) ?_ ?_))
  · repeat walk_at "v"
    refine ⟨rfl, .str p.n, rfl, Nat.le_trans hn1.2.1 (by decide), ?_⟩
    have e1 : isNameD (.str p.n) = true := name_is hn1
    rw [e1]
    refine ⟨_, nw_dat, trivial, ?_⟩
    refine ite2 (fun e => absurd e (by decide)) (fun _ => ?_)
    repeat walk_at "v"
    refine we_tupK' k_KEPT ?_
    refine w2_inS (.inr nw_dat) ?_
    refine ⟨_, rfl, rfl, ?_⟩
    simp only [Bool.false_eq_true, if_false, decide_eq_false_iff_not]
    exact fun z => hn2 (kept_bad _ z)
  rintro b S' ⟨rfl, rfl⟩
  refine iteF ?_
  refine ws_next ?_
  refine ws_seq (ws_if (wt_cut (fun b S2 => S2 = S' ∧ b = false) ?_ ?_))
  · repeat walk_at "v"
    refine we_fld (we_var rfl ?_)
    refine ⟨q, C, _, _, rfl, hq, hC.cl, hC.n6, f6, ?_⟩
    repeat walk_at "v"
    refine wl_T ?_
    rw [cut_to, ← List.map_take, show ((ps ++ qs).take i).map (fun p => PyData.str p.n) = (((ps ++ qs).map (·.n)).take i).map PyData.str by rw [← List.map_take, List.map_map]; rfl]
    refine w2_inS (.inr nw_dat) ?_
    refine ⟨_, rfl, rfl, ?_⟩
    simp only [Bool.false_eq_true, if_false, decide_eq_false_iff_not]
    have e1 := not_take hh.nd (i := i) (by rw [List.length_map]; exact hpi)
    rw [List.getElem_map, hp] at e1
    exact e1
  rintro b S2 ⟨rfl, rfl⟩
  refine iteF ?_
  refine ws_next ?_
  refine ws_seq (ws_if (wt_cut (fun b S3 => S3 = S2 ∧ b = false) ?_ ?_))
  · repeat walk_at "v"
    refine we_tupK' k_SORTS ?_
    refine w2_inS (.inr nw_dat) ?_
    refine ⟨_, rfl, rfl, ?_⟩
    simp [sort_in hst]
  rintro b S3 ⟨rfl, rfl⟩
  refine iteF ?_
  refine ws_next ?_
  refine ws_seq (ws_if ?_)
  repeat walk_at "v"
  refine w2_notN nw_dat ?_
  refine ⟨_, rfl, ite2 (fun e => ?_) (fun e => ?_)⟩
  · have hv : valOk p.s p.v := (hh.vl p hmem).resolve_left fun z => by rw [z] at e; exact absurd e (by decide)
    repeat walk_at "v"
    refine we_if ?_
    repeat walk_at "v"
    refine ⟨rfl, p.v, p.s, rfl, ?_, ?_⟩
    · rcases hv with ⟨_, w', e1, hw⟩ | ⟨_, k', e1, _⟩
      · rw [e1]; exact Nat.le_trans hw.2.1 (by decide)
      · rw [e1]; exact trivial
    rw [val_sort hv]
    refine ⟨_, nw_dat, trivial, ite2 (fun _ => ?_) (fun z => absurd rfl z)⟩
    repeat walk_at "v"
    exact k
  · have hv : p.v = .none := nn (by simpa using e)
    refine ws_next ?_
    refine ws_seq (ws_if (wt_cut (fun b S2 => S2 = S3 ∧ b = false) ?_ ?_))
    · repeat walk_at "v"
      refine we_fld (we_var rfl ?_)
      refine ⟨q, C, _, _, rfl, hq, hC.cl, hC.n4, f4, ?_⟩
      repeat walk_at "v"
      refine wc_len (.inr (.inl ⟨_, nw_dat, rfl⟩)) ?_
      repeat walk_at "v"
      refine ite2 (fun e1 => ?_) (fun e1 => ?_)
      · have hi2 : i < ps.length := by simpa using e1
        repeat walk_at "v"
        refine we_lcm (wip_name (by decide)) (wi_tup ?_)
        repeat walk_at "v"
        refine we_fld (we_var rfl ?_)
        refine ⟨q, C, _, _, rfl, hq, hC.cl, hC.n4, f4, ?_⟩
        repeat walk_at "v"
        refine wl_T ?_
        rw [cut_to, ← List.map_take]
        refine ⟨_, rfl, by simp; omega, fun j => (((ps.take i).take j).map fun p => !isNone p.v).map PyData.bool, rfl, ?_, ?_⟩
        · rintro j D hj hD
          rw [List.length_map] at hj
          have hy := getD_map Pm.d (ps.take i) j hj
          simp only [hy]
          refine wg_name ?_
          walk_at "n"
          refine wt_yes (iteT ?_)
          repeat walk_at "v"
          refine w2_ixT (i := 2) (d := (ps.take i)[j].v) rfl ?_
          repeat walk_at "v"
          refine w2_notN nw_dat ?_
          refine ⟨_, rfl, rfl, ?_⟩
          rw [List.take_add_one, List.getElem?_eq_getElem hj, List.map_append, List.map_append]
          rfl
        rw [List.length_map]
        repeat walk_at "v"
        refine wc_any nw_dat ?_
        refine ⟨_, nw_dat, trivial, rfl, ?_⟩
        show List.any _ id = false
        rw [List.any_eq_false]
        intro x hx
        obtain ⟨p', hp', rfl⟩ := List.mem_map.mp hx
        rw [List.take_length] at hp'
        obtain ⟨j, hj, e3⟩ := List.getElem_of_mem hp'
        rw [List.length_take] at hj
        rw [List.getElem_take] at e3
        intro e4
        have h5 : p'.v ≠ .none := fun z => by rw [z] at e4; exact absurd e4 (by decide)
        have h6 : ps[i]? = some p := by
          rw [List.getElem_append_left hi2] at hp
          rw [List.getElem?_eq_getElem hi2, hp]
        exact hh.mono j i p' p (by omega) (by rw [← e3]; exact List.getElem?_eq_getElem (by omega)) h6 h5 hv
      · exact ⟨rfl, rfl⟩
    rintro b S4 ⟨rfl, rfl⟩
    refine iteF ?_
    refine ws_next ?_
    repeat walk_at "v"
    exact k
theorem ok_check {f pK pS C : Addr} {fd : FuncData} {uM : Value} (T : Txt K mg) (hC : HookC K C) (g__KINDS : mg "_KINDS" = some (.ref pK)) (k_KINDS : TupK K pK kindsT) (g_SORTS : mg "SORTS" = some (.ref pS)) (k_SORTS : TupK K pS sortsT) (g__MOST_PARAMS : mg "_MOST_PARAMS" = some uM) (r__MOST_PARAMS : RelV (.int 3) uM) (F : Df K mg "_check_hook" ["hook"] s_check_hook f fd)
    (c_is_name : Cal P w K mg base 1 "is_name" (SpA K 1 spIsName)) (c_fault_of_param : Cal P w K mg base 3 "_fault_of_param" (SpA K 2 (spFault C))) : Cal P w K mg base 4 "_check_hook" (SpA K 1 (spCheck C)) := by
  have nd := sc_check_hook.nd
  have r__KINDS : RelV (.ref pK) (.ref pK) := rfl
  have r_SORTS : RelV (.ref pS) (.ref pS) := rfl
  refine F.cal sc_check_hook (fun vs H Q E h => h.1) (fun cdv A outer s H vs Q E hr h => ?_)
  have hu := hu_of hr
  refine ⟨_, (pss_cons (ps_if (pt_not (pt_truK K (pe_c c_is_name hr (by omega) rfl (pa_cons (pe_fldK K (pv 0) rfl) pa_nil)) (by intro _; rfl)))
 (pss_one (ps_never))
 pss_nil)
 (pss_cons (ps_if (pt_cmpR (op_notInK K) (pe_fldK K (pv 0) rfl) (pe_glob rfl g__KINDS r__KINDS) (by rfl))
 (pss_one (ps_never))
 pss_nil)
 (pss_cons (ps_for PassesOwn.never rfl (pi_enumA K (by rfl) T.b_enumerate (pa_cons (pe_fldK K (pv 0) rfl) pa_nil)) (pg_tupK (n := 2) K rfl (pgs_cons (pg_name (i := 1) nd rfl (Or.inl rfl)) (pgs_cons (pg_name (i := 2) nd rfl (Or.inl rfl)) pgs_nil)))
 (pss_cons (ps_set (i := 3) nd rfl (Or.inl rfl) (pe_c c_fault_of_param hr (by omega) rfl (pa_cons (pv 0) (pa_cons (pv 1) pa_nil))))
 (pss_one (ps_if (pt_cmpR (op_notN) (pv 3) pe_non (nomark _))
 (pss_one (ps_never))
 pss_nil))))
 (pss_cons (ps_if (pt_cmpR (op_gt) (pe_callB (call_lenK K) (by rfl) T.b_len (by decide +kernel) (pa_cons (pe_fldK K (pv 0) rfl) pa_nil)) (pe_glob rfl g__MOST_PARAMS r__MOST_PARAMS) (nomark _))
 (pss_one (ps_never))
 pss_nil)
 (pss_cons (ps_if (PW.pt (pw_and (pt_cmpR (op_eqK K hr.units) (pe_fldK K (pv 0) rfl) pe_str (nomark _)) (pw_and1 (PW.pt (pw_or (pt_not (pt_truK K (pe_fldK K (pv 0) rfl) (by intro _; rfl))) (pw_or1 (pt_cmpR (op_notN) (pe_ix (ix_seqK K) (pe_ix (ix_seqK K) (pe_fldK K (pv 0) rfl) pe_int (fun _ _ => rfl)) pe_int (fun _ _ => rfl)) pe_non (nomark _))))))))
 (pss_one (ps_never))
 pss_nil)
 (pss_one (ps_if (PW.pt (pw_or (pt_cmpR (op_notInK K) (pe_fldK K (pv 0) rfl) (pe_glob rfl g_SORTS r_SORTS) (by rfl)) (pw_or1 (PW.pt (pw_and (pt_cmpR (op_eqK K hr.units) (pe_fldK K (pv 0) rfl) pe_str (nomark _)) (pw_and1 (pt_cmpR (op_neK K hr.units) (pe_fldK K (pv 0) rfl) (pe_ix (ix_seqK K) (pe_ix (ix_seqK K) (pe_fldK K (pv 0) rfl) pe_int (fun _ _ => rfl)) pe_int (fun _ _ => rfl)) (nomark _))))))))
 (pss_one (ps_never))
 pss_nil))))))), body_ok h (by decide) ?_⟩
  rintro as S P' - ⟨q, name, kind, gives, ps, qs, rfl, hh, hn, hkd, hq, k⟩
  obtain ⟨f1, f2, f3, f4, f5, f6⟩ := fld_hook (name := name) (kind := kind) (gives := gives) (ps := ps) (qs := qs)
  have hln := hh.len
  walk_at "s"
  refine ws_seq (ws_if ?_)
  repeat walk_at "v"
  refine we_fld (we_var rfl ?_)
  refine ⟨q, C, _, _, rfl, hq, hC.cl, hC.n1, f1, ?_⟩
  repeat walk_at "v"
  refine ⟨rfl, .str name, rfl, Nat.le_trans hn.2.1 (by decide), ?_⟩
  have e1 : isNameD (.str name) = true := name_is hn
  rw [e1]
  refine ⟨_, nw_dat, trivial, ite2 (fun e => absurd e (by decide)) (fun _ => ?_)⟩
  refine ws_next ?_
  refine ws_seq (ws_if ?_)
  repeat walk_at "v"
  refine we_fld (we_var rfl ?_)
  refine ⟨q, C, _, _, rfl, hq, hC.cl, hC.n2, f2, ?_⟩
  refine we_tupK' k_KINDS ?_
  refine w2_inS (.inr nw_dat) ?_
  refine ⟨_, rfl, ite2 (fun e => absurd e (by simp [kind_in hkd])) (fun _ => ?_)⟩
  refine ws_next ?_
  refine ws_seq (ws_for (wi_enuT ?_))
  repeat walk_at "v"
  refine we_fld (we_var rfl ?_)
  refine ⟨q, C, _, _, rfl, hq, hC.cl, hC.n6, f6, ?_⟩
  repeat walk_at "v"
  refine ⟨fun _ δ' S' => S' = S ∧ ∃ c1 c2 c3, δ' = [some (.own q), c1, c2, c3], ?_, ?_, ?_⟩
  · exact ⟨rfl, _, _, _, rfl⟩
  · rintro i δ' S' hi ⟨rfl, c1, c2, c3, rfl⟩
    rw [List.length_map, List.length_append] at hi
    refine wg_tup (n := 2) rfl ?_
    refine wgs_cons (wg_name ?_)
    refine wgs_cons (wg_name ?_)
    refine wgs_nil ?_
    walk_at "n"
    repeat walk_at "v"
    refine ⟨rfl, q, name, kind, gives, ps, qs, i, rfl, hh, hi, hq, ?_⟩
    walk_at "n"
    repeat walk_at "v"
    refine ws_if ?_
    repeat walk_at "v"
    refine w2_notN nw_dat ?_
    refine ⟨_, rfl, ite2 (fun e => absurd e (by decide)) (fun _ => ?_)⟩
    refine ws_next ?_
    exact ⟨rfl, _, _, _, rfl⟩
  rintro δ' S' ⟨rfl, c1, c2, c3, rfl⟩
  refine ws_seq (ws_if ?_)
  repeat walk_at "v"
  refine we_fld (we_var rfl ?_)
  refine ⟨q, C, _, _, rfl, hq, hC.cl, hC.n6, f6, ?_⟩
  repeat walk_at "v"
  refine wc_len (.inr (.inl ⟨_, nw_dat, rfl⟩)) ?_
  repeat walk_at "v"
  refine ite2 (fun e => absurd e (by simp; omega)) (fun _ => ?_)
  refine ws_next ?_
  refine ws_seq (ws_if (wt_cut (fun b S2 => S2 = S' ∧ b = false) ?_ ?_))
  · repeat walk_at "v"
    refine we_fld (we_var rfl ?_)
    refine ⟨q, C, _, _, rfl, hq, hC.cl, hC.n2, f2, ?_⟩
    repeat walk_at "v"
    refine ite2 (fun e => ?_) (fun e => ⟨rfl, rfl⟩)
    obtain ⟨p0, r0, e2, e3, e4⟩ := hh.thr (of_decide_eq_true e)
    repeat walk_at "v"
    refine we_fld (we_var rfl ?_)
    refine ⟨q, C, _, _, rfl, hq, hC.cl, hC.n4, f4, ?_⟩
    refine ⟨_, nw_dat, trivial, ?_⟩
    refine ite2 (fun z => absurd z (by rw [e2]; simp [truD])) (fun _ => ?_)
    repeat walk_at "v"
    refine we_fld (we_var rfl ?_)
    refine ⟨q, C, _, _, rfl, hq, hC.cl, hC.n4, f4, ?_⟩
    repeat walk_at "v"
    refine w2_ixT (i := 0) (d := p0.d) (by rw [e2]; rfl) ?_
    repeat walk_at "v"
    refine w2_ixT (i := 2) (d := p0.v) rfl ?_
    repeat walk_at "v"
    refine w2_notN nw_dat ?_
    refine ⟨_, rfl, rfl, ?_⟩
    rw [e3]
    rfl
  rintro b S2 ⟨rfl, rfl⟩
  refine iteF ?_
  refine ws_next ?_
  refine ws_if (wt_cut (fun b S3 => S3 = S2 ∧ b = false) ?_ ?_)
  · repeat walk_at "v"
    refine we_fld (we_var rfl ?_)
    refine ⟨q, C, _, _, rfl, hq, hC.cl, hC.n3, f3, ?_⟩
    refine we_tupK' k_SORTS ?_
    refine w2_inS (.inr nw_dat) ?_
    refine ⟨_, rfl, ite2 (fun e => absurd e (by simp [sort_in hh.outs])) (fun _ => ?_)⟩
    repeat walk_at "v"
    refine we_fld (we_var rfl ?_)
    refine ⟨q, C, _, _, rfl, hq, hC.cl, hC.n2, f2, ?_⟩
    repeat walk_at "v"
    refine ite2 (fun e => ?_) (fun e => ⟨rfl, rfl⟩)
    obtain ⟨p0, r0, e2, e3, e4⟩ := hh.thr (of_decide_eq_true e)
    repeat walk_at "v"
    refine we_fld (we_var rfl ?_)
    refine ⟨q, C, _, _, rfl, hq, hC.cl, hC.n3, f3, ?_⟩
    repeat walk_at "v"
    refine we_fld (we_var rfl ?_)
    refine ⟨q, C, _, _, rfl, hq, hC.cl, hC.n4, f4, ?_⟩
    repeat walk_at "v"
    refine w2_ixT (i := 0) (d := p0.d) (by rw [e2]; rfl) ?_
    repeat walk_at "v"
    refine w2_ixT (i := 1) (d := .str p0.s) rfl ?_
    repeat walk_at "v"
    refine ⟨rfl, ?_⟩
    simp [e4]
  rintro b S3 ⟨rfl, rfl⟩
  refine iteF ?_
  refine ws_next ?_
  exact k
end
end Hk
namespace Hk
open PySem PySem.Spec PyProof.Rows L2 Ov
abbrev s_Hook___init : Stmt := inClass (topS 15) 0
theorem sc_Hook___init : FnScope ["self", "name", "kind", "params", "only", "gives", "param"] ["self", "name", "kind", "params", "only", "gives"] (defScope s_Hook___init) := ⟨rfl, rfl, rfl, by decide +kernel, rfl, by decide +kernel, by decide +kernel⟩
local macro_rules | `(tactic| walk_at "w") => `(tactic| with_reducible first
  | refine iteT ?_ | refine iteF ?_
  | refine ws_seq ?_ | refine ws_if ?_ | refine ws_set ?_ | refine ws_ret ?_ | refine ws_drop ?_ | refine ws_next ?_ | refine ws_dputS ?_ | refine we_andT ?_ | refine we_orT ?_
  | refine wt_test ?_ | refine wt_and ?_ | refine wt_or ?_ | refine wt_not ?_ | refine wt_truK ?_ | refine wt_B ?_
  | refine we_op ?_ | refine we_cb ?_ | refine we_dgetS ?_ | refine wa_cons ?_ | refine wa_nil ?_ | refine we_var rfl ?_ | refine we_int ?_ | refine we_str ?_ | refine we_bl ?_ | refine we_non ?_ | refine we_ty ?_
  | refine w2_addI ?_ | refine w2_eqS ?_ | refine w2_neS ?_ | refine w2_eqI ?_ | refine w2_neI ?_ | refine w2_sub ?_ | refine w2_I0 ?_ | refine we_call ?_ | refine we_un ?_ | refine w1_neg ?_ | refine we_sl ?_ | refine wo_none ?_ | refine wo_some ?_ | refine we_notT ?_ | refine we_if ?_ | refine we_join ?_ | refine we_split ?_ | refine we_tup ?_ | refine wt_yes ?_ | refine ⟨_, rfl, ?_⟩)
local macro_rules | `(tactic| walk_at "v") => `(tactic| with_reducible first
  | refine iteT ?_ | refine iteF ?_
  | refine ws_seq ?_ | refine ws_par ?_ | refine ws_set ?_ | refine ws_ret ?_ | refine ws_drop ?_ | refine ws_next ?_ | refine ws_dputS ?_ | refine we_andT ?_ | refine we_orT ?_
  | refine wt_test ?_ | refine wt_and ?_ | refine wt_or ?_ | refine wt_not ?_ | refine wt_truK ?_ | refine wt_B ?_
  | refine we_op ?_ | refine we_cb ?_ | refine we_dgetS ?_ | refine wa_cons ?_ | refine wa_nil ?_ | refine we_var rfl ?_ | refine we_int ?_ | refine we_str ?_ | refine we_bl ?_ | refine we_non ?_ | refine we_ty ?_
  | refine w2_addI ?_ | refine w2_eqS ?_ | refine w2_neS ?_ | refine w2_eqI ?_ | refine w2_neI ?_ | refine w2_sub ?_ | refine w2_I0 ?_ | refine we_call ?_ | refine we_un ?_ | refine w1_neg ?_ | refine we_sl ?_ | refine wo_none ?_ | refine wo_some ?_ | refine we_notT ?_ | refine we_join ?_ | refine we_split ?_ | refine we_tup ?_ | refine wt_yes ?_ | refine ⟨_, rfl, ?_⟩)
local macro_rules | `(tactic| walk_at "s") => `(tactic| simp only [nox_K, cx_K, startA, List.map_cons, List.map_nil, List.length_cons, List.length_nil, List.cons_append, List.nil_append, Nat.reduceAdd, Nat.reduceSub, List.reduceReplicate])
local macro_rules | `(tactic| walk_at "n") => `(tactic| (try dsimp only [wipeD, List.set_cons_zero, List.set_cons_succ]))
local macro_rules | `(tactic| walk_at "bg") => `(tactic| ((repeat walk_at "w"); refine ⟨_, _, _, _, rfl, rfl, by first | assumption | exact set_same, by first | exact box_great | exact box_now | exact box_seed | exact box_turn | exact wld_tests | exact wld_params | exact wld_plus | exact wld_gives, ?_⟩; (repeat walk_at "w")))
local macro_rules | `(tactic| walk_at "bp") => `(tactic| ((repeat walk_at "w"); refine ⟨_, _, _, rfl, rfl, by first | assumption | exact set_same, by first | exact box_len | exact wld_len, ?_⟩; first | rw [box_now_put] | rw [box_seed_put] | rw [box_turn_put] | rw [wld_tests_put] | rw [wld_plus_put]))
local macro_rules | `(tactic| walk_at "t") => `(tactic| first | refine ⟨_, dc dn, dl rfl, ?_⟩ | refine ⟨_, dc (dc dn), dl rfl, ?_⟩ | refine ⟨_, dc (dc (dc dn)), dl rfl, ?_⟩ | refine ⟨_, dc (dc (dc (dc dn))), dl rfl, ?_⟩ | refine ⟨_, dc (dc (dc (dc (dc dn)))), dl rfl, ?_⟩)

section
variable {P : Program} {w : World} {K : PySem.W.Frag} {mg : Str → Option Value} {base : Heap}
theorem ok_init {f C : Addr} {fd : FuncData} (T : Txt K mg) (hC : HookC K C) (F : Fun K "__init__" "Hook.__init__" s_Hook___init f fd) (c_triple : Cal P w K mg base 1 "_triple" (SpA K 1 spTriple)) (c_check_hook : Cal P w K mg base 4 "_check_hook" (SpA K 1 (spCheck C))) : FnOk P w K mg base CX0 5 f fd ["self", "name", "kind", "params", "only", "gives"] (SpA K 6 (spHookNew C)) := by
  have nd := sc_Hook___init.nd
  refine F.ok sc_Hook___init (fun vs H Q E h => h.1) (fun cdv A outer s H vs Q E hr h => ?_)
  have hu := hu_of hr
  refine ⟨_, (pss_cons (ps_fld (pv 0) (pv 1) rfl)
 (pss_cons (ps_fld (pv 0) (pv 2) rfl)
 (pss_cons (ps_fld (pv 0) (pv 5) rfl)
 (pss_cons (ps_fld (pv 0) (pe_callTy (call_tupleK K) (by rfl) T.b_tuple (by decide +kernel) (pa_cons (pe_lc (own := [("param", 6)]) (g := gName 6) (by rfl) nd (pi_seqK K (pv 3)) (blkOk_by (own := [("param", 6)]) (N := ["self", "name", "kind", "params", "only", "gives", "param"]) (sc := defScope s_Hook___init) (by decide +kernel)) (fun _ _ _ _ _ => (pg_name (i := 6) nd rfl (Or.inl rfl))) (fun _ _ _ _ _ => pts_nil) (fun _ _ _ _ _ => (pe_c c_triple hr (by omega) rfl (pa_cons (pv 6) pa_nil)))) pa_nil)) rfl)
 (pss_cons (ps_fld (pv 0) (pe_callTy (call_tupleK K) (by rfl) T.b_tuple (by decide +kernel) (pa_cons (pe_lc (own := [("param", 6)]) (g := gName 6) (by rfl) nd (pi_seqK K (pv 4)) (blkOk_by (own := [("param", 6)]) (N := ["self", "name", "kind", "params", "only", "gives", "param"]) (sc := defScope s_Hook___init) (by decide +kernel)) (fun _ _ _ _ _ => (pg_name (i := 6) nd rfl (Or.inl rfl))) (fun _ _ _ _ _ => pts_nil) (fun _ _ _ _ _ => (pe_c c_triple hr (by omega) rfl (pa_cons (pv 6) pa_nil)))) pa_nil)) rfl)
 (pss_cons (ps_fld (pv 0) (pe_callTy (call_tupleK K) (by rfl) T.b_tuple (by decide +kernel) (pa_cons (pe_lc (own := [("param", 6)]) (g := gName 6) (by rfl) nd (pi_tupK K (pe_op (op_addK K) (pe_fldK K (pv 0) rfl) (pe_fldK K (pv 0) rfl))) (blkOk_by (own := [("param", 6)]) (N := ["self", "name", "kind", "params", "only", "gives", "param"]) (sc := defScope s_Hook___init) (by decide +kernel)) (fun _ _ _ _ _ => (pg_name (i := 6) nd rfl (Or.inl rfl))) (fun _ _ _ _ _ => pts_nil) (fun _ _ _ _ _ => (pe_ix (ix_seqK K) (pv 6) pe_int (fun _ _ => rfl)))) pa_nil)) rfl)
 (pss_one (ps_expr (pe_c c_check_hook hr (by omega) rfl (pa_cons (pv 0) pa_nil)))))))))), body_ok h (by decide) ?_⟩
  rintro as S P' - ⟨q, name, kind, gives, ps, qs, a, b, ds, es, rfl, ha, hb, ta, tb, hh, hn, hkd, hq, k⟩
  walk_at "s"
  have hln := hh.len
  obtain ⟨f1, f2, f3, f4, f5, f6⟩ := fld_hook (name := name) (kind := kind) (gives := gives) (ps := ps) (qs := qs)
  refine ws_seq (ws_fld (we_var rfl (we_var rfl ⟨q, C, [], rfl, hq, hC.cl, hC.n1, by decide, ?_⟩)))
  rw [show putFA "name" (.dat (.str name)) [] = ([("name", .dat (.str name))] : List (Str × AV)) from rfl]
  refine ws_seq (ws_fld (we_var rfl (we_var rfl ⟨q, C, _, rfl, set_same, hC.cl, hC.n2, by show 1 < 1000; decide, ?_⟩)))
  rw [put_kind, set_set]
  refine ws_seq (ws_fld (we_var rfl (we_var rfl ⟨q, C, _, rfl, set_same, hC.cl, hC.n3, by show 2 < 1000; decide, ?_⟩)))
  rw [put_gives, set_set]
  have told : ∀ (ps : List Pm) (ds : List PyData) (a : AV), ps.length ≤ 3 → ToldAll ps ds → ∀ {δ : Dl} {S : Sto} {P : Po} {i : Nat}, SeqIn S a ds → δ[i]? = some (some a) → (wipeD δ [6]).length = 7 → P (.dat (.tuple (ps.map Pm.d))) S → Ov.WE K (tCB (rTupOf K) (tCons (tLc (iSeqA K (tVar i)) (gName 6) tYes (tCall (SpA K 1 spTriple) [] E0 (tCons (tVar 6) tNil)) [6]) tNil)) δ S P := by
    intro ps ds a hl3 ta δ S P i ha hi h7 hP
    refine we_cb (wa_cons ?_)
    refine we_lcmS (wip_name (by decide)) ha (fun Q hQ => we_var hi hQ) (by rw [ta.1]; omega) (fun j => (ps.take j).map Pm.d) rfl ?_ ?_
    · rintro j D hj hD
      rw [ta.1] at hj
      have hj2 : j < ds.length := by rw [ta.1]; exact hj
      have hy : ds.getD j .none = ds[j] := by rw [List.getD_eq_getElem?_getD, List.getElem?_eq_getElem hj2]; rfl
      simp only [hy]
      refine wg_name ?_
      refine wt_yes (iteT ?_)
      refine we_call (wa_cons (we_var (by rw [List.getElem?_set_self (by rw [h7]; decide)]) (wa_nil ?_)))
      refine ⟨rfl, _, ps[j], rfl, ta.2 j ps[j] ds[j] (List.getElem?_eq_getElem hj) (List.getElem?_eq_getElem hj2), ?_⟩
      refine ⟨_, rfl, rfl, ?_⟩
      rw [List.take_add_one, List.getElem?_eq_getElem hj, List.map_append]
      rfl
    rw [ta.1]
    refine wa_nil ?_
    refine wc_tuple (.inl nw_dat) ?_
    have e0 : (fun j => (ps.take j).map Pm.d) ps.length = ps.map Pm.d := by
      show (ps.take ps.length).map Pm.d = _
      rw [List.take_length]
    rw [List.take_length]
    exact hP
  refine ws_seq (ws_fld (told ps ds a (by omega) ta (ha.put hq) rfl rfl (we_var rfl ⟨q, C, _, rfl, set_same, hC.cl, hC.n4, by show 3 < 1000; decide, ?_⟩)))
  rw [put_params, set_set]
  refine ws_seq (ws_fld (told qs es b (by omega) tb (hb.put hq) rfl rfl (we_var rfl ⟨q, C, _, rfl, set_same, hC.cl, hC.n5, by show 4 < 1000; decide, ?_⟩)))
  rw [put_only, set_set]
  have g4 : fldA ([("name", .dat (.str name)), ("kind", .dat (.str kind)), ("gives", .dat (.str gives)), ("params", .dat (.tuple (ps.map Pm.d))), ("only", .dat (.tuple (qs.map Pm.d)))] : List (Str × AV)) "params" = some (.dat (.tuple (ps.map Pm.d))) ∧ fldA ([("name", .dat (.str name)), ("kind", .dat (.str kind)), ("gives", .dat (.str gives)), ("params", .dat (.tuple (ps.map Pm.d))), ("only", .dat (.tuple (qs.map Pm.d)))] : List (Str × AV)) "only" = some (.dat (.tuple (qs.map Pm.d))) := by
    have a5 : (Str.ofString "params" == Str.ofString "name") = false := by decide +kernel
    have a6 : (Str.ofString "params" == Str.ofString "kind") = false := by decide +kernel
    have a7 : (Str.ofString "params" == Str.ofString "gives") = false := by decide +kernel
    have b1 : (Str.ofString "only" == Str.ofString "name") = false := by decide +kernel
    have b2 : (Str.ofString "only" == Str.ofString "kind") = false := by decide +kernel
    have b3 : (Str.ofString "only" == Str.ofString "gives") = false := by decide +kernel
    have b4 : (Str.ofString "only" == Str.ofString "params") = false := by decide +kernel
    have d1 : ∀ z : Str, (z == z) = true := fun z => by simp
    unfold fldA
    constructor <;> simp only [List.lookup_cons, a5, a6, a7, b1, b2, b3, b4, d1]
  refine ws_seq (ws_fld (we_cb (wa_cons ?_)))
  refine we_lcm (wip_name (by decide)) (wi_tup (we_op ?_))
  refine we_fld (we_var rfl ⟨q, C, _, _, rfl, set_same, hC.cl, hC.n4, g4.1, ?_⟩)
  refine we_fld (we_var rfl ⟨q, C, _, _, rfl, set_same, hC.cl, hC.n5, g4.2, ?_⟩)
  refine w2_addT (by simp; omega) ?_
  rw [← List.map_append]
  refine ⟨_, rfl, by simp; omega, fun j => ((ps ++ qs).take j).map fun p => PyData.str p.n, rfl, ?_, ?_⟩
  · rintro j D hj hD
    rw [List.length_map] at hj
    have hy := getD_map Pm.d (ps ++ qs) j hj
    simp only [hy]
    refine wg_name ?_
    walk_at "n"
    refine wt_yes (iteT ?_)
    repeat walk_at "v"
    refine w2_ixT (i := 0) (d := .str (ps ++ qs)[j].n) rfl ?_
    refine ⟨_, rfl, rfl, ?_⟩
    rw [List.take_add_one, List.getElem?_eq_getElem hj, List.map_append]
    rfl
  rw [List.length_map]
  refine wa_nil ?_
  refine wc_tuple (.inl nw_dat) ?_
  walk_at "n"
  rw [List.take_length]
  refine we_var rfl ⟨q, C, _, rfl, set_same, hC.cl, hC.n6, by show 5 < 1000; decide, ?_⟩
  rw [put_names, set_set]
  repeat walk_at "v"
  refine ⟨rfl, q, name, kind, gives, ps, qs, rfl, hh, hn, hkd, set_same, ?_⟩
  exact k
end
end Hk
namespace Hk
open PySem PySem.Spec PyProof.Rows L2 Ov
abbrev s_Hook___initN : Stmt := inClass (topS 15) 0
section
variable {K : PySem.W.Frag}
theorem hook_kbn {f : Addr} {fd : FuncData} (F : Fun K "__init__" "Hook.__init__" s_Hook___initN f fd) : KBn K fd ["self", "name", "kind", "params", "only", "gives"] 4 ["only", "gives"] (fun us ws => us ++ ws) (fun vs zs => vs ++ zs) := by
  obtain ⟨⟨oc, od, kV, doc, pm, an, cdv, ct, osl, rfl, lk, hcd⟩, kp⟩ := F
  refine ⟨fun s us ws X l1 l2 => ?_, fun r1 r2 => r1.append r2⟩
  match us, ws, l1, l2 with
  | [a, b, c, d], [x, y], _, _ => exact .of_eq rfl
end
end Hk
namespace Hk
open PySem PySem.Spec PyProof.Rows L2 Ov
abbrev s_hook_of : Stmt := topS 30
theorem sc_hook_of : FnScope ["_law_hook_here"] ["_law_hook_here"] (defScope s_hook_of) := ⟨rfl, rfl, rfl, by decide +kernel, rfl, by decide +kernel, by decide +kernel⟩
local macro_rules | `(tactic| walk_at "w") => `(tactic| with_reducible first
  | refine iteT ?_ | refine iteF ?_
  | refine ws_seq ?_ | refine ws_if ?_ | refine ws_set ?_ | refine ws_ret ?_ | refine ws_drop ?_ | refine ws_next ?_ | refine ws_dputS ?_ | refine we_andT ?_ | refine we_orT ?_
  | refine wt_test ?_ | refine wt_and ?_ | refine wt_or ?_ | refine wt_not ?_ | refine wt_truK ?_ | refine wt_B ?_
  | refine we_op ?_ | refine we_cb ?_ | refine we_dgetS ?_ | refine wa_cons ?_ | refine wa_nil ?_ | refine we_var rfl ?_ | refine we_int ?_ | refine we_str ?_ | refine we_bl ?_ | refine we_non ?_ | refine we_ty ?_
  | refine w2_addI ?_ | refine w2_eqS ?_ | refine w2_neS ?_ | refine w2_eqI ?_ | refine w2_neI ?_ | refine w2_sub ?_ | refine w2_I0 ?_ | refine we_call ?_ | refine we_un ?_ | refine w1_neg ?_ | refine we_sl ?_ | refine wo_none ?_ | refine wo_some ?_ | refine we_notT ?_ | refine we_if ?_ | refine we_join ?_ | refine we_split ?_ | refine we_tup ?_ | refine wt_yes ?_ | refine ⟨_, rfl, ?_⟩)
local macro_rules | `(tactic| walk_at "v") => `(tactic| with_reducible first
  | refine iteT ?_ | refine iteF ?_
  | refine ws_seq ?_ | refine ws_par ?_ | refine ws_set ?_ | refine ws_ret ?_ | refine ws_drop ?_ | refine ws_next ?_ | refine ws_dputS ?_ | refine we_andT ?_ | refine we_orT ?_
  | refine wt_test ?_ | refine wt_and ?_ | refine wt_or ?_ | refine wt_not ?_ | refine wt_truK ?_ | refine wt_B ?_
  | refine we_op ?_ | refine we_cb ?_ | refine we_dgetS ?_ | refine wa_cons ?_ | refine wa_nil ?_ | refine we_var rfl ?_ | refine we_int ?_ | refine we_str ?_ | refine we_bl ?_ | refine we_non ?_ | refine we_ty ?_
  | refine w2_addI ?_ | refine w2_eqS ?_ | refine w2_neS ?_ | refine w2_eqI ?_ | refine w2_neI ?_ | refine w2_sub ?_ | refine w2_I0 ?_ | refine we_call ?_ | refine we_un ?_ | refine w1_neg ?_ | refine we_sl ?_ | refine wo_none ?_ | refine wo_some ?_ | refine we_notT ?_ | refine we_join ?_ | refine we_split ?_ | refine we_tup ?_ | refine wt_yes ?_ | refine ⟨_, rfl, ?_⟩)
local macro_rules | `(tactic| walk_at "s") => `(tactic| simp only [nox_K, cx_K, startA, List.map_cons, List.map_nil, List.length_cons, List.length_nil, List.cons_append, List.nil_append, Nat.reduceAdd, Nat.reduceSub, List.reduceReplicate])
local macro_rules | `(tactic| walk_at "n") => `(tactic| (try dsimp only [wipeD, List.set_cons_zero, List.set_cons_succ]))
local macro_rules | `(tactic| walk_at "bg") => `(tactic| ((repeat walk_at "w"); refine ⟨_, _, _, _, rfl, rfl, by first | assumption | exact set_same, by first | exact box_great | exact box_now | exact box_seed | exact box_turn | exact wld_tests | exact wld_params | exact wld_plus | exact wld_gives, ?_⟩; (repeat walk_at "w")))
local macro_rules | `(tactic| walk_at "bp") => `(tactic| ((repeat walk_at "w"); refine ⟨_, _, _, rfl, rfl, by first | assumption | exact set_same, by first | exact box_len | exact wld_len, ?_⟩; first | rw [box_now_put] | rw [box_seed_put] | rw [box_turn_put] | rw [wld_tests_put] | rw [wld_plus_put]))
local macro_rules | `(tactic| walk_at "t") => `(tactic| first | refine ⟨_, dc dn, dl rfl, ?_⟩ | refine ⟨_, dc (dc dn), dl rfl, ?_⟩ | refine ⟨_, dc (dc (dc dn)), dl rfl, ?_⟩ | refine ⟨_, dc (dc (dc (dc dn))), dl rfl, ?_⟩ | refine ⟨_, dc (dc (dc (dc (dc dn)))), dl rfl, ?_⟩)

section
variable {P : Program} {w : World} {K : PySem.W.Frag} {mg : Str → Option Value} {base : Heap}
theorem ok_hook_of {f fI C_Hook : Addr} {fd fdI : FuncData} {gW : List Value → List Value → List Value} (T : Txt K mg) (F : Df K mg "_law_hook_of" ["_law_hook_here"] s_hook_of f fd)
    (M_Hook : Mk K C_Hook fI) (I_Hook : FnOk P w K mg base CX0 5 fI fdI ["self", "name", "kind", "params", "only", "gives"] (SpA K 6 (spHookNew C_Hook))) (g_Hook : mg "Hook" = some (.ref C_Hook)) (b_Hook2 : KBn K fdI ["self", "name", "kind", "params", "only", "gives"] 4 ["only", "gives"] gW (fun vs zs => vs ++ zs)) :
    Cal P w K mg base 7 "_law_hook_of" (SpA K 1 (spHookOf C_Hook)) := by
  have nd := sc_hook_of.nd
  refine F.cal sc_hook_of (fun vs H Q E h => h.1) (fun cdv A outer s H vs Q E hr h => ?_)
  have hu := hu_of hr
  refine ⟨_, (pss_one (ps_ret (pe_makeK M_Hook I_Hook (hr.mono (by omega)) (by rfl) g_Hook b_Hook2 pass0 (pa_cons (pe_ix (ix_seqK K) (pv 0) pe_int (fun _ _ => rfl)) (pa_cons (pe_ix (ix_seqK K) (pv 0) pe_int (fun _ _ => rfl)) (pa_cons (pe_ix (ix_seqK K) (pv 0) pe_int (fun _ _ => rfl)) pa_nil))) (pk_cons (pe_ix (ix_seqK K) (pv 0) pe_int (fun _ _ => rfl)) (pk_cons (pe_ix (ix_seqK K) (pv 0) pe_int (fun _ _ => rfl)) pk_nil))))), body_ok h (by decide) ?_⟩
  rintro as S P' - ⟨name, kind, outs, ps, qs, rfl, hh, hn, hk, k⟩
  walk_at "s"
  refine ws_ret (we_makeK (gA := fun a as bs => a :: (as ++ bs)) (fun r1 r2 => .cons rfl (r1.app r2)) ?_)
  refine wa_cons (we_op (we_var rfl (we_int (w2_ixT (i := 0) (d := .str name) rfl (wa_cons (we_op (we_var rfl (we_int (w2_ixT (i := 1) (d := .str kind) rfl (wa_cons (we_op (we_var rfl (we_int (w2_ixT (i := 2) (d := .list (ps.map Pm.d)) rfl (wa_nil ?_)))))))))))))))
  refine wa_cons (we_op (we_var rfl (we_int (w2_ixT (i := 3) (d := .list (qs.map Pm.d)) rfl (wa_cons (we_op (we_var rfl (we_int (w2_ixT (i := 4) (d := .str outs) rfl (wa_nil ⟨rfl, rfl, fun q n => ⟨rfl, q, name, kind, outs, ps, qs, _, _, _, _, rfl, .inl (.inl rfl), .inl (.inl rfl), told_self ps, told_self qs, hh, hn, hk, set_same, rfl, ?_⟩⟩))))))))))
  rw [set_set]
  exact k q n
end
end Hk
namespace Hk
open PySem PySem.Spec PyProof.Rows L2 Ov
abbrev s_BadCall___init : Stmt := inClass (topS 3) 0
theorem sc_BadCall___init : FnScope ["self", "word", "name"] ["self", "word", "name"] (defScope s_BadCall___init) := ⟨rfl, rfl, rfl, by decide +kernel, rfl, by decide +kernel, by decide +kernel⟩
abbrev s_given : Stmt := topS 19
theorem sc_given : FnScope ["hook", "args", "named", "name", "given", "at", "value"] ["hook", "args", "named"] (defScope s_given) := ⟨rfl, rfl, rfl, by decide +kernel, rfl, by decide +kernel, by decide +kernel⟩
abbrev s_Hook_bind : Stmt := inClass (topS 15) 1
theorem sc_Hook_bind : FnScope ["self", "args", "named", "given", "call", "name", "_", "default", "sort"] ["self", "args", "named"] (defScope s_Hook_bind) := ⟨rfl, rfl, rfl, by decide +kernel, rfl, by decide +kernel, by decide +kernel⟩
local macro_rules | `(tactic| walk_at "w") => `(tactic| with_reducible first
  | refine iteT ?_ | refine iteF ?_
  | refine ws_seq ?_ | refine ws_if ?_ | refine ws_set ?_ | refine ws_ret ?_ | refine ws_drop ?_ | refine ws_next ?_ | refine ws_dputS ?_ | refine we_andT ?_ | refine we_orT ?_
  | refine wt_test ?_ | refine wt_and ?_ | refine wt_or ?_ | refine wt_not ?_ | refine wt_truK ?_ | refine wt_B ?_
  | refine we_op ?_ | refine we_cb ?_ | refine we_dgetS ?_ | refine wa_cons ?_ | refine wa_nil ?_ | refine we_var rfl ?_ | refine we_int ?_ | refine we_str ?_ | refine we_bl ?_ | refine we_non ?_ | refine we_ty ?_
  | refine w2_addI ?_ | refine w2_eqS ?_ | refine w2_neS ?_ | refine w2_eqI ?_ | refine w2_neI ?_ | refine w2_sub ?_ | refine w2_I0 ?_ | refine we_call ?_ | refine we_un ?_ | refine w1_neg ?_ | refine we_sl ?_ | refine wo_none ?_ | refine wo_some ?_ | refine we_notT ?_ | refine we_if ?_ | refine we_join ?_ | refine we_split ?_ | refine we_tup ?_ | refine wt_yes ?_ | refine ⟨_, rfl, ?_⟩)
local macro_rules | `(tactic| walk_at "v") => `(tactic| with_reducible first
  | refine iteT ?_ | refine iteF ?_
  | refine ws_seq ?_ | refine ws_par ?_ | refine ws_set ?_ | refine ws_ret ?_ | refine ws_drop ?_ | refine ws_next ?_ | refine ws_dputS ?_ | refine we_andT ?_ | refine we_orT ?_
  | refine wt_test ?_ | refine wt_and ?_ | refine wt_or ?_ | refine wt_not ?_ | refine wt_truK ?_ | refine wt_B ?_
  | refine we_op ?_ | refine we_cb ?_ | refine we_dgetS ?_ | refine wa_cons ?_ | refine wa_nil ?_ | refine we_var rfl ?_ | refine we_int ?_ | refine we_str ?_ | refine we_bl ?_ | refine we_non ?_ | refine we_ty ?_
  | refine w2_addI ?_ | refine w2_eqS ?_ | refine w2_neS ?_ | refine w2_eqI ?_ | refine w2_neI ?_ | refine w2_sub ?_ | refine w2_I0 ?_ | refine we_call ?_ | refine we_un ?_ | refine w1_neg ?_ | refine we_sl ?_ | refine wo_none ?_ | refine wo_some ?_ | refine we_notT ?_ | refine we_join ?_ | refine we_split ?_ | refine we_tup ?_ | refine wt_yes ?_ | refine ⟨_, rfl, ?_⟩)
local macro_rules | `(tactic| walk_at "s") => `(tactic| simp only [nox_K, cx_K, startA, List.map_cons, List.map_nil, List.length_cons, List.length_nil, List.cons_append, List.nil_append, Nat.reduceAdd, Nat.reduceSub, List.reduceReplicate])
local macro_rules | `(tactic| walk_at "n") => `(tactic| (try dsimp only [wipeD, List.set_cons_zero, List.set_cons_succ]))
local macro_rules | `(tactic| walk_at "bg") => `(tactic| ((repeat walk_at "w"); refine ⟨_, _, _, _, rfl, rfl, by first | assumption | exact set_same, by first | exact box_great | exact box_now | exact box_seed | exact box_turn | exact wld_tests | exact wld_params | exact wld_plus | exact wld_gives, ?_⟩; (repeat walk_at "w")))
local macro_rules | `(tactic| walk_at "bp") => `(tactic| ((repeat walk_at "w"); refine ⟨_, _, _, rfl, rfl, by first | assumption | exact set_same, by first | exact box_len | exact wld_len, ?_⟩; first | rw [box_now_put] | rw [box_seed_put] | rw [box_turn_put] | rw [wld_tests_put] | rw [wld_plus_put]))
local macro_rules | `(tactic| walk_at "t") => `(tactic| first | refine ⟨_, dc dn, dl rfl, ?_⟩ | refine ⟨_, dc (dc dn), dl rfl, ?_⟩ | refine ⟨_, dc (dc (dc dn)), dl rfl, ?_⟩ | refine ⟨_, dc (dc (dc (dc dn))), dl rfl, ?_⟩ | refine ⟨_, dc (dc (dc (dc (dc dn)))), dl rfl, ?_⟩)

theorem find_nz {α : Type} {p : α → Bool} {l : List α} {i : Nat} {n : α} (h : ∀ m ∈ l.take i, p m = false) (e : l[i]? = some n) (hp : p n = true) : l.find? p = some n := (find_step h e).1 hp
theorem find_z {α : Type} {p : α → Bool} {l : List α} {i : Nat} {n : α} (h : ∀ m ∈ l.take i, p m = false) (e : l[i]? = some n) (hp : p n = false) : ∀ m ∈ l.take (i + 1), p m = false := (find_step h e).2 hp
section
variable {P : Program} {w : World} {K : PySem.W.Frag} {mg : Str → Option Value} {base : Heap}
theorem ok_bcinit {f CI : Addr} {fd : FuncData} (O : OexC K CI) (nw : PySem.W.findIn K (.ref CI) "word" = some none) (nn' : PySem.W.findIn K (.ref CI) "name" = some none) (F : Fun K "__init__" "BadCall.__init__" s_BadCall___init f fd) : FnOk P w K mg base CX0 1 f fd ["self", "word", "name"] (spXI2 K CI "word" "name") := by
  have nd := sc_BadCall___init.nd
  refine F.ok sc_BadCall___init (fun vs H Q E h => ?_) (fun cdv A outer s H vs Q E hr h => ?_)
  · obtain ⟨a, x, y, rfl, _⟩ := h; rfl
  refine ⟨_, (pss_cons (ps_ost (pv 0) (pv 1))
 (pss_one (ps_ost (pv 0) (pv 2)))), ?_⟩
  obtain ⟨a, x, y, rfl, ha, k⟩ := h
  refine ⟨_, rfl, _, rfl, a, CI, rfl, O, nw, .inl ⟨ha, fun d hd hne => ?_⟩⟩
  refine ⟨_, rfl, _, rfl, a, CI, rfl, O, nn', .inr ⟨d, _, upd_same, ?_, by simp, k d hd hne⟩⟩
  rw [upd_ne hne, upd_same]
theorem ok_given {f C CI fI : Addr} {fd fdI : FuncData} (T : Txt K mg) (hC : HookC K C) (F : Fun K "_given" "_given" s_given f fd)
    (O_BadCall : OexC K CI) (i_BadCall : PySem.W.findIn K (.ref CI) "__init__" = some (some (.ref fI))) (t_BadCall : PySem.W.typeIn K (.ref fI) = some (.type "function")) (X_BadCall : FnOk P w K mg base CX0 1 fI fdI ["self", "word", "name"] (spXI2 K CI "word" "name")) (b_BadCall : Binds K fdI ["self", "word", "name"] []) (g_BadCall : mg "BadCall" = some (.ref CI)) : FnOk P w K mg base (L2.CX P w) 3 f fd ["hook", "args", "named"] (SpX K 3 (spGiven C CI)) := by
  have nd := sc_given.nd
  refine F.okX sc_given (fun vs H Q E h => h.1) (fun cdv A outer s H vs Q E hr h => ?_)
  have hu := hu_of hr
  refine ⟨_, (pss_cons (ps_if (pt_cmpR (op_gt) (pe_callB (call_lenK K) (by rfl) T.b_len (by decide +kernel) (pa_cons (pv 1) pa_nil)) (pe_callB (call_lenK K) (by rfl) T.b_len (by decide +kernel) (pa_cons (pe_fldK K (pv 0) rfl) pa_nil)) (nomark _))
 (pss_one (ps_raise rfl (takes_of rfl rfl rfl rfl) (pmk_oex O_BadCall i_BadCall t_BadCall X_BadCall (hr.mono (by omega)) b_BadCall .nil pass0 (by rfl) g_BadCall (pa_cons pe_str (pa_cons pe_non pa_nil)))))
 pss_nil)
 (pss_cons (ps_for (passes_of rfl) rfl (pi_listK K (pe_callB (call_sortedDk rfl) (by rfl) T.b_sorted (by decide +kernel) (pa_cons (pv 2) pa_nil))) (pg_name (i := 3) nd rfl (Or.inl rfl))
 (pss_one (ps_if (pt_cmpR (op_notInK K) (pv 3) (pe_fldK K (pv 0) rfl) (by rfl))
 (pss_one (ps_raise rfl (takes_of rfl rfl rfl rfl) (pmk_oex O_BadCall i_BadCall t_BadCall X_BadCall (hr.mono (by omega)) b_BadCall .nil pass0 (by rfl) g_BadCall (pa_cons pe_str (pa_cons (pv 3) pa_nil)))))
 pss_nil)))
 (pss_cons (ps_set (i := 4) nd rfl (Or.inl rfl) (pe_callTy call_dictDk (by rfl) T.b_dict (by decide +kernel) (pa_cons (pv 2) pa_nil)))
 (pss_cons (ps_for (passes_of rfl) rfl (pi_enumA K (by rfl) T.b_enumerate (pa_cons (pv 1) pa_nil)) (pg_tupK (n := 2) K rfl (pgs_cons (pg_name (i := 5) nd rfl (Or.inl rfl)) (pgs_cons (pg_name (i := 6) nd rfl (Or.inl rfl)) pgs_nil)))
 (pss_cons (ps_set (i := 3) nd rfl (Or.inl rfl) (pe_ix (ix_seqK K) (pe_fldK K (pv 0) rfl) (pv 5) (fun _ _ => rfl)))
 (pss_cons (ps_if (pt_cmp (pc_din hu (pv 3) (pv 2)))
 (pss_one (ps_raise rfl (takes_of rfl rfl rfl rfl) (pmk_oex O_BadCall i_BadCall t_BadCall X_BadCall (hr.mono (by omega)) b_BadCall .nil pass0 (by rfl) g_BadCall (pa_cons pe_str (pa_cons (pv 3) pa_nil)))))
 pss_nil)
 (pss_one (ps_dput hu (pv 4) (pv 3) (pv 6) rfl)))))
 (pss_one (ps_ret (pv 4))))))), body_okX h (by decide) ?_⟩
  rintro as S P' PX - ⟨q, name, kind, gives, ps, qs, a, b, ds, nm, rfl, hg, hq, hb, k⟩
  walk_at "s"
  obtain ⟨f1, f2, f3, f4, f5, f6⟩ := fld_hook (name := name) (kind := kind) (gives := gives) (ps := ps) (qs := qs)
  have hln := hg.len
  have hls : ∀ l : List Pm, l.map (fun p => PyData.str p.n) = (l.map (·.n)).map PyData.str := fun l => by rw [List.map_map]; rfl
  generalize hw : givenW ps.length (ps ++ qs) ds nm = wr at k
  unfold givenW at hw
  have lenA : (∃ es, Nw S a (.list es) ∧ ds.length = es.length) ∨ (∃ es, Nw S a (.tuple es) ∧ ds.length = es.length) ∨ ∃ z, a = .dat (.str z) ∧ z.length ≤ 1000000 ∧ ds.length = z.length := hb.sq.nwl.elim (fun h => .inl ⟨_, h, rfl⟩) fun h => .inr (.inl ⟨_, h, rfl⟩)
  refine wse_seqE (wse_if (wt_test (we_op (we_cb (wa_cons (we_var rfl (wa_nil (wc_len lenA (we_cb (wa_cons (we_fld (we_var rfl ⟨q, C, _, _, rfl, hq, hC.cl, hC.n4, f4, wa_nil (wc_len (.inr (.inl ⟨_, nw_dat, rfl⟩)) (w2_I0 ⟨_, rfl, ?_⟩))⟩))))))))))))
  have em : decide (((ps.map Pm.d).length : Int) < (ds.length : Nat)) = decide (ds.length > ps.length) := by
    rw [List.length_map]
    exact decide_eq_decide.mpr (by omega)
  rw [em]
  cases h1 : decide (ds.length > ps.length) with
  | true =>
    rw [h1, if_pos rfl] at hw
    subst hw
    exact iteT (wse_raise rfl (wa_cons (we_str (wa_cons (we_non (wa_nil ⟨_, _, rfl, k S (Grow.refl S)⟩))))))
  | false =>
  rw [h1, if_neg (by decide)] at hw
  have hdl : ds.length ≤ ps.length := by have := of_decide_eq_false h1; omega
  refine iteF (wse_of (ws_next ?_))
  generalize hN : (ps ++ qs).map (·.n) = names at hw
  refine wse_seqE (wse_for (wi_list (we_cb (wa_cons (we_var rfl (wa_nil (wc_sortedDk hb.dk (by have := hb.ln; omega) fun ys hp hs => ?_)))))))
  obtain rfl : ys = srt _ := srt_eq hp hs
  clear hp hs
  generalize srt (nm.map (·.1)) = ys at hw
  refine ⟨_, rfl, fun i δ' S' => S' = S ∧ (∀ m ∈ ys.take i, (!decide (m ∈ names)) = false) ∧ ∃ c3 c4 c5 c6, δ' = [some (.own q), some a, some b, c3, c4, c5, c6], ?_, ?_, ?_⟩
  · exact ⟨rfl, by simp, _, _, _, _, rfl⟩
  · rintro i δ' S' hi ⟨rfl, hb2, c3, c4, c5, c6, rfl⟩
    rw [List.length_map] at hi
    have hy := getD_map PyData.str ys i hi
    simp only [hy]
    have hyi := List.getElem?_eq_getElem hi
    generalize ys[i] = y at hyi
    refine wg_name ?_
    walk_at "n"
    refine wse_if (wt_test (we_op (we_var rfl (we_fld (we_var rfl ⟨q, C, _, _, rfl, hq, hC.cl, hC.n6, f6, ?_⟩)))))
    rw [hls, hN]
    refine w2_inS (neg := true) (.inr nw_dat) ⟨_, rfl, ?_⟩
    simp only [if_true]
    cases hin : (!decide (y ∈ names)) with
    | true =>
      rw [find_nz hb2 hyi hin] at hw
      subst hw
      exact iteT (wse_raise rfl (wa_cons (we_str (wa_cons (we_var rfl (wa_nil ⟨_, _, rfl, k _ (Grow.refl _)⟩))))))
    | false => exact iteF (wse_of (ws_next ⟨rfl, find_z hb2 hyi hin, _, _, _, _, rfl⟩))
  rintro δ' S' ⟨rfl, hb2, c3, c4, c5, c6, rfl⟩
  rw [List.length_map] at hb2
  rw [find_all hb2] at hw
  replace hw : (match (names.take ds.length).find? (fun n => (getS nm n).isSome) with
    | some n => some (Str.ofString "twice", PyData.str n)
    | none => none) = wr := hw
  refine wse_seq (ws_set (we_cb (wa_cons (we_var rfl (wa_nil (wc_dictDk hb.dk fun g hgn => ?_))))))
  walk_at "n"
  have hqg : q ≠ g := fun e => by rw [e, hgn] at hq; cases hq
  have hl : ds.length ≤ (ps ++ qs).length := by rw [List.length_append]; omega
  refine wse_seqE (wse_forO (wio_enumS (hb.sq.new hgn) (fun Q hQ => wa_cons (we_var rfl (wa_nil hQ))) ⟨fun i δ' S2 => S2 = S'.set g (.dct ((nm ++ posL (ps ++ qs) (ds.take i)).map kvA)) ∧ (∀ m ∈ (names.take ds.length).take i, (getS nm m).isSome = false) ∧ ∃ c3 c5 c6, δ' = [some (.own q), some a, some b, c3, some (.own g), c5, c6], ?_, ?_, ?_, ?_⟩))
  · exact ⟨by simp [posL], by simp, _, _, _, rfl⟩
  · rintro i δ2 S2 _ ⟨rfl, _, _⟩
    exact hb.sq.new hgn
  · rintro i δ2 S2 hi ⟨rfl, hb3, c3, c5, c6, rfl⟩
    have hpi : i < (ps ++ qs).length := by omega
    have hp := List.getElem?_eq_getElem hpi
    have hd := List.getElem?_eq_getElem hi
    have hgd : ds.getD i .none = ds[i] := by rw [List.getD_eq_getElem?_getD, hd]; rfl
    simp only [hgd]
    have hmem := List.getElem_mem hpi
    generalize (ps ++ qs)[i] = p at hp hmem
    generalize ds[i] = d at hd
    have hn : (names.take ds.length)[i]? = some p.n := by
      rw [List.getElem?_take_of_lt hi, ← hN, List.getElem?_map, hp]; rfl
    refine wg_tup (n := 2) rfl (wgs_cons (wg_name (wgs_cons (wg_name (wgs_nil ?_)))))
    walk_at "n"
    refine wse_seq (ws_set (we_op (we_fld (we_var rfl ⟨q, C, _, _, rfl, (set_ne hqg).trans hq, hC.cl, hC.n6, f6, we_var rfl (w2_ixT (i := i) (d := .str p.n) (by rw [List.getElem?_map, hp]; rfl) ?_)⟩))))
    walk_at "n"
    refine wse_seqE (wse_if (wt_B (we_dinD (we_var rfl (we_var rfl ⟨nm, p.n, hb.dk.new hgn, rfl, _, rfl, ?_⟩)))))
    cases ht : (getS nm p.n).isSome with
    | true =>
      rw [find_nz hb3 hn ht] at hw
      subst hw
      exact iteT (wse_raise rfl (wa_cons (we_str (wa_cons (we_var rfl (wa_nil ⟨_, _, rfl, k _ ((Grow.refl _).set hgn)⟩))))))
    | false =>
      refine iteF (wse_of (ws_next ?_))
      refine wse_of (ws_dputS (we_var rfl (we_var rfl (we_var rfl ⟨p.n, g, _, rfl, rfl, set_same, ?_, ?_⟩))))
      · have := hb.ln
        have := hb.ld
        simp [posL]
        omega
      · rw [set_set, put_kv ?_, List.append_assoc, ← posL_snoc hp hd]
        · exact ⟨rfl, find_z hb3 hn ht, _, _, _, rfl⟩
        · rw [getS_app]
          have e1 : getS nm p.n = none := by cases hz : getS nm p.n with
            | none => rfl
            | some _ => rw [hz] at ht; cases ht
          rw [e1, posL_get hg.nd hp, List.getElem?_take]
          simp
  rintro δ2 S2 ⟨rfl, hb3, c3, c5, c6, rfl⟩
  have e3 : (names.take ds.length).length = ds.length := by
    rw [List.length_take, ← hN, List.length_map]; omega
  rw [find_all (by rw [e3]; exact hb3)] at hw
  subst hw
  rw [List.take_length]
  exact wse_of (ws_ret (we_var rfl (k g hgn)))
theorem ok_bind {f fG C CI fI : Addr} {fd fdG fdI : FuncData} (T : Txt K mg) (hC : HookC K C) (F : Fun K "bind" "Hook.bind" s_Hook_bind f fd)
    (F_given : FnOk P w K mg base (L2.CX P w) 3 fG fdG ["hook", "args", "named"] (SpX K 3 (spGiven C CI))) (m_given : mg "_given" = some (.ref fG)) (kp_given : PySem.W.keepIn K (.ref fG) = true) (b_given : Binds K fdG ["hook", "args", "named"] []) (c_has_sort : Cal P w K mg base 2 "has_sort" (SpA K 2 spHasSort))
    (O_BadCall : OexC K CI) (i_BadCall : PySem.W.findIn K (.ref CI) "__init__" = some (some (.ref fI))) (t_BadCall : PySem.W.typeIn K (.ref fI) = some (.type "function")) (X_BadCall : FnOk P w K mg base CX0 1 fI fdI ["self", "word", "name"] (spXI2 K CI "word" "name")) (b_BadCall : Binds K fdI ["self", "word", "name"] []) (g_BadCall : mg "BadCall" = some (.ref CI)) : FnOk P w K mg base (L2.CX P w) 4 f fd ["self", "args", "named"] (SpX K 3 (spBind C CI)) := by
  have nd := sc_Hook_bind.nd
  refine F.okX sc_Hook_bind (fun vs H Q E h => h.1) (fun cdv A outer s H vs Q E hr h => ?_)
  have hu := hu_of hr
  refine ⟨_, (pss_cons (ps_set (i := 3) nd rfl (Or.inl rfl) (pe_callS F_given (hr.mono (by omega)) (by rfl) m_given kp_given b_given (fun σ => passAt (takes_of rfl rfl rfl rfl) σ) (pa_cons (pv 0) (pa_cons (pv 1) (pa_cons (pv 2) pa_nil)))))
 (pss_cons (ps_set (i := 4) nd rfl (Or.inl rfl) pe_dnewK)
 (pss_cons (ps_for (passes_of rfl) rfl (pi_tupK K (pe_op (op_addK K) (pe_fldK K (pv 0) rfl) (pe_fldK K (pv 0) rfl))) (pg_tupK (n := 3) K rfl (pgs_cons (pg_name (i := 5) nd rfl (Or.inl rfl)) (pgs_cons (pg_name (i := 6) nd rfl (Or.inl rfl)) (pgs_cons (pg_name (i := 7) nd rfl (Or.inl rfl)) pgs_nil))))
 (pss_cons (ps_if (PW.pt (pw_and (pt_cmp (pc_dnotin hu (pv 5) (pv 3))) (pw_and1 (pt_cmpR (op_isN) (pv 7) pe_non (nomark _)))))
 (pss_one (ps_raise rfl (takes_of rfl rfl rfl rfl) (pmk_oex O_BadCall i_BadCall t_BadCall X_BadCall (hr.mono (by omega)) b_BadCall .nil pass0 (by rfl) g_BadCall (pa_cons pe_str (pa_cons (pv 5) pa_nil)))))
 pss_nil)
 (pss_one (ps_dput hu (pv 4) (pv 5) (pe_dget2 hu (pv 3) (pv 5) (pv 7) ⟨rfl, rfl, rfl, rfl⟩) rfl))))
 (pss_cons (ps_for (passes_of rfl) rfl (pi_tupK K (pe_op (op_addK K) (pe_fldK K (pv 0) rfl) (pe_fldK K (pv 0) rfl))) (pg_tupK (n := 3) K rfl (pgs_cons (pg_name (i := 5) nd rfl (Or.inl rfl)) (pgs_cons (pg_name (i := 8) nd rfl (Or.inl rfl)) (pgs_cons (pg_name (i := 6) nd rfl (Or.inl rfl)) pgs_nil))))
 (pss_one (ps_if (pt_not (pt_truK K (pe_c c_has_sort hr (by omega) rfl (pa_cons (pe_dget hu (pv 4) (pv 5) (fun _ _ => rfl)) (pa_cons (pv 8) pa_nil))) (by intro _; rfl)))
 (pss_one (ps_raise rfl (takes_of rfl rfl rfl rfl) (pmk_oex O_BadCall i_BadCall t_BadCall X_BadCall (hr.mono (by omega)) b_BadCall .nil pass0 (by rfl) g_BadCall (pa_cons pe_str (pa_cons (pv 5) pa_nil)))))
 pss_nil)))
 (pss_one (ps_ret (pv 4))))))), body_okX h (by decide) ?_⟩
  rintro as S P' PX - ⟨q, name, kind, gives, ps, qs, a, b, ds, nm, rfl, hg, hq, hb, k⟩
  walk_at "s"
  obtain ⟨f1, f2, f3, f4, f5, f6⟩ := fld_hook (name := name) (kind := kind) (gives := gives) (ps := ps) (qs := qs)
  have hln := hg.len
  generalize hw : bindW ps.length (ps ++ qs) ds nm = wr at k
  unfold bindW at hw
  refine wse_seqE (wse_setC (wa_cons (we_var rfl (wa_cons (we_var rfl (wa_cons (we_var rfl (wa_nil ⟨rfl, q, name, kind, gives, ps, qs, a, b, ds, nm, rfl, hg, hq, hb, ?_⟩))))))))
  cases hgw : givenW ps.length (ps ++ qs) ds nm with
  | some x =>
    rw [hgw] at hw
    subst hw
    exact k
  | none =>
  rw [hgw] at hw
  replace hw : (match (ps ++ qs).find? (lackP (nm ++ posL (ps ++ qs) ds)) with
    | some p => some (Str.ofString "missing", PyData.str p.n)
    | none => match (ps ++ qs).find? (fun p => !hasSortD (valP (nm ++ posL (ps ++ qs) ds) p) p.s) with
      | some p => some (Str.ofString "sort", PyData.str p.n)
      | none => none) = wr := hw
  intro g hgn
  generalize hgv : nm ++ posL (ps ++ qs) ds = gv at k hw
  walk_at "n"
  refine wse_seq (ws_set (we_dnew fun r hrn => ?_))
  walk_at "n"
  have hrg : r ≠ g := fun e => by rw [e, set_same] at hrn; cases hrn
  have hrS : S r = none := by rw [set_ne hrg] at hrn; exact hrn
  have hqg : q ≠ g := fun e => by rw [e, hgn] at hq; cases hq
  have hqr : q ≠ r := fun e => by rw [e, hrS] at hq; cases hq
  have hq2 : ∀ o : AO, ((S.set g (.dct (gv.map kvA))).set r o) q = some (.ins C (hookF name kind gives ps qs)) := fun o => by rw [set_ne hqr, set_ne hqg]; exact hq
  have hg2 : ∀ o : AO, ((S.set g (.dct (gv.map kvA))).set r o) g = some (.dct (gv.map kvA)) := fun o => by rw [set_ne hrg.symm]; exact set_same
  have gr : ∀ o : AO, Grow S ((S.set g (.dct (gv.map kvA))).set r o) := fun o => ((Grow.refl S).set hgn).set hrS
  refine wse_seqE (wse_for (wi_tup (we_op (we_fld (we_var rfl ⟨q, C, _, _, rfl, hq2 _, hC.cl, hC.n4, f4, we_fld (we_var rfl ⟨q, C, _, _, rfl, hq2 _, hC.cl, hC.n5, f5, w2_addT (by simp; omega) ?_⟩)⟩)))))
  rw [← List.map_append]
  refine ⟨_, rfl, fun i δ' S' => S' = (S.set g (.dct (gv.map kvA))).set r (.dct ((callL ((ps ++ qs).take i) gv).map kvA)) ∧ (∀ p ∈ (ps ++ qs).take i, lackP gv p = false) ∧ ∃ c5 c6 c7 c8, δ' = [some (.own q), some a, some b, some (.own g), some (.own r), c5, c6, c7, c8], ?_, ?_, ?_⟩
  · exact ⟨rfl, by simp, _, _, _, _, rfl⟩
  · rintro i δ' S' hi ⟨rfl, hb2, c5, c6, c7, c8, rfl⟩
    rw [List.length_map] at hi
    have hy := getD_map Pm.d (ps ++ qs) i hi
    simp only [hy]
    have hp := List.getElem?_eq_getElem hi
    have hmem := List.getElem_mem hi
    have hnt := not_take hg.nd (i := i) (by rw [List.length_map]; exact hi)
    rw [List.getElem_map, ← List.map_take] at hnt
    generalize (ps ++ qs)[i] = p at hp hmem hnt
    refine wg_tup (n := 3) rfl (wgs_cons (wg_name (wgs_cons (wg_name (wgs_cons (wg_name (wgs_nil ?_)))))))
    walk_at "n"
    refine wse_seqE (wse_if (wt_cut (fun b' S3 => S3 = (S.set g (.dct (gv.map kvA))).set r (.dct ((callL ((ps ++ qs).take i) gv).map kvA)) ∧ b' = lackP gv p) ?_ ?_))
    · refine wt_and (wt_B (we_dnotinD (we_var rfl (we_var rfl ⟨gv, p.n, .inr ⟨g, rfl, hg2 _⟩, rfl, _, rfl, ?_⟩))))
      unfold lackP
      cases hgs : (getS gv p.n).isSome with
      | true => exact iteF ⟨rfl, rfl⟩
      | false => exact iteT (wt_test (we_op (we_var rfl (we_non (w2_isN nw_dat ⟨_, rfl, rfl, rfl⟩)))))
    rintro b' S3 ⟨rfl, rfl⟩
    cases hlk : lackP gv p with
    | true =>
      rw [find_nz hb2 hp hlk] at hw
      subst hw
      exact iteT (wse_raise rfl (wa_cons (we_str (wa_cons (we_var rfl (wa_nil ⟨_, _, rfl, k _ (gr _)⟩))))))
    | false =>
      refine iteF (wse_of (ws_next (wse_of (ws_dputS (we_dget2D (we_var rfl ⟨gv, .inr ⟨g, rfl, hg2 _⟩, we_var rfl (we_var rfl ⟨gv, p.n, p.v, rfl, rfl, .inr ⟨g, rfl, hg2 _⟩, we_var rfl (we_var rfl ⟨p.n, r, _, rfl, rfl, set_same, ?_, ?_⟩)⟩)⟩))))))
      · rw [List.length_map]
        unfold callL
        rw [List.length_map, List.length_take]
        have : (ps ++ qs).length ≤ 3 := by rw [List.length_append]; exact hln
        omega
      · rw [set_set, put_kv (getS_none (by rw [callL_keys]; exact hnt))]
        refine ⟨?_, find_z hb2 hp hlk, _, _, _, _, rfl⟩
        rw [callL_snoc hp]
        rfl
  rintro δ' S' ⟨rfl, hb2, c5, c6, c7, c8, rfl⟩
  rw [List.length_map] at hb2 ⊢
  rw [find_all hb2] at hw
  replace hw : (match (ps ++ qs).find? (fun p => !hasSortD (valP gv p) p.s) with
      | some p => some (Str.ofString "sort", PyData.str p.n)
      | none => none) = wr := hw
  rw [List.take_length]
  refine wse_seqE (wse_for (wi_tup (we_op (we_fld (we_var rfl ⟨q, C, _, _, rfl, hq2 _, hC.cl, hC.n4, f4, we_fld (we_var rfl ⟨q, C, _, _, rfl, hq2 _, hC.cl, hC.n5, f5, w2_addT (by simp; omega) ?_⟩)⟩)))))
  rw [← List.map_append]
  refine ⟨_, rfl, fun i δ' S' => S' = (S.set g (.dct (gv.map kvA))).set r (.dct ((callL (ps ++ qs) gv).map kvA)) ∧ (∀ p ∈ (ps ++ qs).take i, (!hasSortD (valP gv p) p.s) = false) ∧ ∃ c5 c6 c7 c8, δ' = [some (.own q), some a, some b, some (.own g), some (.own r), c5, c6, c7, c8], ?_, ?_, ?_⟩
  · exact ⟨rfl, by simp, _, _, _, _, rfl⟩
  · rintro i δ' S' hi ⟨rfl, hb3, d5, d6, d7, d8, rfl⟩
    rw [List.length_map] at hi
    have hy := getD_map Pm.d (ps ++ qs) i hi
    simp only [hy]
    have hp := List.getElem?_eq_getElem hi
    have hmem := List.getElem_mem hi
    generalize (ps ++ qs)[i] = p at hp hmem
    refine wg_tup (n := 3) rfl (wgs_cons (wg_name (wgs_cons (wg_name (wgs_cons (wg_name (wgs_nil ?_)))))))
    walk_at "n"
    have hsh : shortD (valP gv p) := by rw [← hgv]; exact val_short hg hb hmem
    refine wse_if (wt_not (wt_truK (we_call (wa_cons (we_dgetS (we_var rfl (we_var rfl ⟨p.n, r, _, .dat (valP gv p), rfl, rfl, set_same, by rw [valA_kv, callL_get hg.nd hmem]; rfl, wa_cons (we_var rfl (wa_nil ⟨rfl, valP gv p, p.s, rfl, hsh, _, nw_dat, trivial, ?_⟩))⟩)))))))
    cases hh : hasSortD (valP gv p) p.s with
    | false =>
      rw [find_nz hb3 hp (by rw [hh]; rfl)] at hw
      subst hw
      exact iteT (wse_raise rfl (wa_cons (we_str (wa_cons (we_var rfl (wa_nil ⟨_, _, rfl, k _ (gr _)⟩))))))
    | true => exact iteF (wse_of (ws_next ⟨rfl, find_z hb3 hp (by rw [hh]; rfl), _, _, _, _, rfl⟩))
  rintro δ' S' ⟨rfl, hb3, d5, d6, d7, d8, rfl⟩
  rw [List.length_map] at hb3
  rw [find_all hb3] at hw
  subst hw
  exact wse_of (ws_ret (we_var rfl (k r _ (gr _) hrS set_same)))
end
end Hk
namespace Hk
open PySem PySem.Spec PyProof.Rows L2 Ov
abbrev s_call : Stmt := topS 31
theorem sc_call : FnScope ["_law_box_here", "_law_hook_here", "_law_found", "_law_name", "_law_sort", "_law_default"] ["_law_box_here", "_law_hook_here"] (defScope s_call) := ⟨rfl, rfl, rfl, by decide +kernel, rfl, by decide +kernel, by decide +kernel⟩
abbrev s_bound : Stmt := topS 32
theorem sc_bound : FnScope ["_law_box_here", "_law_hook_here", "_law_model", "_law_call_here", "_law_wide", "_law_some", "_law_named", "_law_name", "_law_sort", "_law_default", "_law_one"] ["_law_box_here", "_law_hook_here", "_law_model", "_law_call_here", "_law_wide"] (defScope s_bound) := ⟨rfl, rfl, rfl, by decide +kernel, rfl, by decide +kernel, by decide +kernel⟩
local macro_rules | `(tactic| walk_at "w") => `(tactic| with_reducible first
  | refine iteT ?_ | refine iteF ?_
  | refine ws_seq ?_ | refine ws_if ?_ | refine ws_set ?_ | refine ws_ret ?_ | refine ws_drop ?_ | refine ws_next ?_ | refine ws_dputS ?_ | refine we_andT ?_ | refine we_orT ?_
  | refine wt_test ?_ | refine wt_and ?_ | refine wt_or ?_ | refine wt_not ?_ | refine wt_truK ?_ | refine wt_B ?_
  | refine we_op ?_ | refine we_cb ?_ | refine we_dgetS ?_ | refine wa_cons ?_ | refine wa_nil ?_ | refine we_var rfl ?_ | refine we_int ?_ | refine we_str ?_ | refine we_bl ?_ | refine we_non ?_ | refine we_ty ?_
  | refine w2_addI ?_ | refine w2_eqS ?_ | refine w2_neS ?_ | refine w2_eqI ?_ | refine w2_neI ?_ | refine w2_sub ?_ | refine w2_I0 ?_ | refine we_call ?_ | refine we_un ?_ | refine w1_neg ?_ | refine we_sl ?_ | refine wo_none ?_ | refine wo_some ?_ | refine we_notT ?_ | refine we_if ?_ | refine we_join ?_ | refine we_split ?_ | refine we_tup ?_ | refine wt_yes ?_ | refine ⟨_, rfl, ?_⟩)
local macro_rules | `(tactic| walk_at "v") => `(tactic| with_reducible first
  | refine iteT ?_ | refine iteF ?_
  | refine ws_seq ?_ | refine ws_par ?_ | refine ws_set ?_ | refine ws_ret ?_ | refine ws_drop ?_ | refine ws_next ?_ | refine ws_dputS ?_ | refine we_andT ?_ | refine we_orT ?_
  | refine wt_test ?_ | refine wt_and ?_ | refine wt_or ?_ | refine wt_not ?_ | refine wt_truK ?_ | refine wt_B ?_
  | refine we_op ?_ | refine we_cb ?_ | refine we_dgetS ?_ | refine wa_cons ?_ | refine wa_nil ?_ | refine we_var rfl ?_ | refine we_int ?_ | refine we_str ?_ | refine we_bl ?_ | refine we_non ?_ | refine we_ty ?_
  | refine w2_addI ?_ | refine w2_eqS ?_ | refine w2_neS ?_ | refine w2_eqI ?_ | refine w2_neI ?_ | refine w2_sub ?_ | refine w2_I0 ?_ | refine we_call ?_ | refine we_un ?_ | refine w1_neg ?_ | refine we_sl ?_ | refine wo_none ?_ | refine wo_some ?_ | refine we_notT ?_ | refine we_join ?_ | refine we_split ?_ | refine we_tup ?_ | refine wt_yes ?_ | refine ⟨_, rfl, ?_⟩)
local macro_rules | `(tactic| walk_at "s") => `(tactic| simp only [nox_K, cx_K, startA, List.map_cons, List.map_nil, List.length_cons, List.length_nil, List.cons_append, List.nil_append, Nat.reduceAdd, Nat.reduceSub, List.reduceReplicate])
local macro_rules | `(tactic| walk_at "n") => `(tactic| (try dsimp only [wipeD, List.set_cons_zero, List.set_cons_succ]))
local macro_rules | `(tactic| walk_at "bg") => `(tactic| ((repeat walk_at "w"); refine ⟨_, _, _, _, rfl, rfl, by first | assumption | exact set_same, by first | exact box_great | exact box_now | exact box_seed | exact box_turn | exact wld_tests | exact wld_params | exact wld_plus | exact wld_gives, ?_⟩; (repeat walk_at "w")))
local macro_rules | `(tactic| walk_at "bp") => `(tactic| ((repeat walk_at "w"); refine ⟨_, _, _, rfl, rfl, by first | assumption | exact set_same, by first | exact box_len | exact wld_len, ?_⟩; first | rw [box_now_put] | rw [box_seed_put] | rw [box_turn_put] | rw [wld_tests_put] | rw [wld_plus_put]))
local macro_rules | `(tactic| walk_at "t") => `(tactic| first | refine ⟨_, dc dn, dl rfl, ?_⟩ | refine ⟨_, dc (dc dn), dl rfl, ?_⟩ | refine ⟨_, dc (dc (dc dn)), dl rfl, ?_⟩ | refine ⟨_, dc (dc (dc (dc dn))), dl rfl, ?_⟩ | refine ⟨_, dc (dc (dc (dc (dc dn)))), dl rfl, ?_⟩)

def AllK (l : List Pm) (vs : List PyData) : Prop := ∀ (j : Nat) (p : Pm) (v : PyData), l[j]? = some p → vs[j]? = some v → ValK p.s v
theorem AllK.snoc {l : List Pm} {vs : List PyData} {p : Pm} {v : PyData} (h : AllK l vs) (hp : l[vs.length]? = some p) (hv : ValK p.s v) : AllK l (vs ++ [v]) := fun j q u h1 h2 => by
  rcases at_snoc h2 with h2 | ⟨e, rfl⟩
  · exact h j q u h1 h2
  · subst e
    rw [hp] at h1
    cases h1
    exact hv
def spCall : List AV → Sto → Po → Prop := fun as S P => ∃ (d g : Addr) (name kind outs : Str) (ps qs : List Pm), as = [.own d, .dat (hookD name kind ps qs outs)] ∧ HookOk kind ps qs outs ∧ Box d g S ∧
  ∀ (vs : List PyData) (q : Addr) S', vs.length = (ps ++ qs).length → AllK (ps ++ qs) vs → S q = none → S' q = some (.dct ((posL (ps ++ qs) vs).map kvA)) → Box d g S' → (∀ a, a ≠ d → a ≠ g → a ≠ q → S' a = S a) → P (.own q) S'
def spBound (C : Addr) : List AV → Sto → Po → Prop := fun as S P => ∃ (d g q : Addr) (name kind outs : Str) (ps qs : List Pm) (vs : List PyData) (W : Nat), as = [.own d, .own q, .dat (hookD name kind ps qs outs), .dat (.dict ((posL (ps ++ qs) vs).map kvD)), .dat (.int W)] ∧ HookOk kind ps qs outs ∧ Box d g S ∧ S q = some (.ins C (hookF name kind outs ps qs)) ∧ vs.length = (ps ++ qs).length ∧ AllK (ps ++ qs) vs ∧ W ≤ ps.length ∧
  ∀ (r : Addr) S', Box d g S' → (∀ a o, a ≠ d → a ≠ g → S a = some o → S' a = some o) → S r = none → S' r = some (.dct ((posL (ps ++ qs) vs).map kvA)) → P (.own r) S'
theorem do_bind {S8 : Sto} {C CI q : Addr} {name kind outs : Str} {ps qs : List Pm} {a b : AV} {ds vs : List PyData} {nm : List (Str × PyData)} {Q : Po} {PX : Px} (hh : HookOk kind ps qs outs) (h1 : BOk (ps ++ qs) ps.length ds nm vs) (h2 : S8 q = some (.ins C (hookF name kind outs ps qs))) (h3 : SeqIn S8 a ds) (h4 : Dk S8 b nm) (h5 : (nm.map (·.1)).Nodup) (h6 : nm.length ≤ 3) (h7 : ds.length ≤ 3) (h8 : ∀ x ∈ ds, shortD x) (h9 : ∀ kv ∈ nm, shortD kv.2)
    (h10 : ∀ r S9, Grow S8 S9 → S8 r = none → S9 r = some (.dct ((posL (ps ++ qs) vs).map kvA)) → Q (.own r) S9) : spBind C CI [.own q, a, b] S8 Q PX := by
  refine ⟨q, name, kind, outs, ps, qs, a, b, ds, nm, rfl, hh, h2, ⟨h3, h4, h5, by omega, by omega, h8, h9⟩, ?_⟩
  rw [h1.bind]
  intro r S9 gr hr e
  rw [h1.call] at e
  exact h10 r S9 gr hr e
theorem Box.keep {d g : Addr} {S S' : Sto} (h : Box d g S) (k : ∀ a o, S a = some o → S' a = some o) : Box d g S' := by
  obtain ⟨ne, ⟨n, s, t, e1⟩, ⟨ns, e2⟩⟩ := h
  exact ⟨ne, ⟨n, s, t, k _ _ e1⟩, ⟨ns, k _ _ e2⟩⟩
theorem bind_fld {name kind gives : Str} {ps qs : List Pm} : fldA (hookF name kind gives ps qs) (Str.ofString "bind") = none := by
  have a1 : (Str.ofString "bind" == Str.ofString "name") = false := by decide +kernel
  have a2 : (Str.ofString "bind" == Str.ofString "kind") = false := by decide +kernel
  have a3 : (Str.ofString "bind" == Str.ofString "gives") = false := by decide +kernel
  have a4 : (Str.ofString "bind" == Str.ofString "params") = false := by decide +kernel
  have a5 : (Str.ofString "bind" == Str.ofString "only") = false := by decide +kernel
  have a6 : (Str.ofString "bind" == Str.ofString "names") = false := by decide +kernel
  unfold fldA hookF
  simp only [List.lookup_cons, a1, a2, a3, a4, a5, a6, List.lookup_nil]
section
variable {P : Program} {w : World} {K : PySem.W.Frag} {mg : Str → Option Value} {base : Heap}
theorem ok_call {f : Addr} {fd : FuncData} (T : Txt K mg) (F : Df K mg "_law_call" ["_law_box_here", "_law_hook_here"] s_call f fd) (c_take : Cal P w K mg base 1 "_law_take" (SpA K 2 spTake)) (c_value : Cal P w K mg base 3 "_law_value" (SpA K 2 spValue)) : Cal P w K mg base 4 "_law_call" (SpA K 2 spCall) := by
  have nd := sc_call.nd
  refine F.cal sc_call (fun vs H Q E h => h.1) (fun cdv A outer s H vs Q E hr h => ?_)
  have hu := hu_of hr
  refine ⟨_, (pss_cons (ps_set (i := 2) nd rfl (Or.inl rfl) pe_dnewK)
 (pss_cons (ps_for PassesOwn.never rfl (pi_listK K (pe_op (op_addK K) (pe_ix (ix_seqK K) (pv 1) pe_int (fun _ _ => rfl)) (pe_ix (ix_seqK K) (pv 1) pe_int (fun _ _ => rfl)))) (pg_tupK (n := 3) K rfl (pgs_cons (pg_name (i := 3) nd rfl (Or.inl rfl)) (pgs_cons (pg_name (i := 4) nd rfl (Or.inl rfl)) (pgs_cons (pg_name (i := 5) nd rfl (Or.inl rfl)) pgs_nil))))
 (pss_cons (ps_dput hu (pv 2) (pv 3) (pe_c c_value hr (by omega) rfl (pa_cons (pv 0) (pa_cons (pv 4) pa_nil))) rfl)
 (pss_one (ps_if (PW.pt (pw_and (pt_cmpR (op_eqK K hr.units) (pv 4) pe_str (nomark _)) (pw_and1 (pt_cmpR (op_eqK K hr.units) (pe_c c_take hr (by omega) rfl (pa_cons (pv 0) (pa_cons pe_int pa_nil))) pe_int (nomark _)))))
 (pss_one (ps_dput hu (pv 2) (pv 3) (pe_op op_mulA (pe_op op_sub pe_int (pe_c c_take hr (by omega) rfl (pa_cons (pv 0) (pa_cons pe_int pa_nil)))) (pe_op op_sub pe_int (pe_op op_mulA pe_int (pe_c c_take hr (by omega) rfl (pa_cons (pv 0) (pa_cons pe_int pa_nil)))))) rfl))
 pss_nil))))
 (pss_one (ps_ret (pv 2))))), body_ok h (by decide) ?_⟩
  rintro as S P' - ⟨d, g, name, kind, outs, ps, qs, rfl, hh, hB, k⟩
  walk_at "s"
  have hln := hh.len
  have hnd := hh.nd
  refine ws_seq (ws_set (we_dnew fun pd hpd => ?_))
  have npd := hB.ne_new hpd
  have hB1 := hB.set_ne' (o := .dct []) npd.1 npd.2
  walk_at "n"
  have e1 : (S.set pd (.dct [])) pd = some (.dct ((posL (ps ++ qs) []).map kvA)) := by rw [set_same]; cases (ps ++ qs) <;> rfl
  have kp1 : ∀ a, a ≠ d → a ≠ g → a ≠ pd → (S.set pd (.dct [])) a = S a := fun a _ _ h => set_ne h
  generalize S.set pd (.dct []) = S1 at hB1 e1 kp1
  refine ws_cut (fun δ' S2 => ∃ vs c3 c4 c5, vs.length = (ps ++ qs).length ∧ AllK (ps ++ qs) vs ∧ Box d g S2 ∧ (∀ a, a ≠ d → a ≠ g → a ≠ pd → S2 a = S a) ∧ S2 pd = some (.dct ((posL (ps ++ qs) vs).map kvA)) ∧ δ' = [some (.own d), some (.dat (hookD name kind ps qs outs)), some (.own pd), c3, c4, c5]) ?_ ?_
  · refine ws_for (wi_list (we_op (we_op (we_var rfl (we_int (w2_ixT (i := 2) (d := .list (ps.map Pm.d)) rfl (we_op (we_var rfl (we_int (w2_ixT (i := 3) (d := .list (qs.map Pm.d)) rfl (w2_addL nw_dat nw_dat (by simp; omega) ?_)))))))))))
    rw [← List.map_append]
    refine ⟨_, rfl, fun i δ' S2 => ∃ vs c3 c4 c5, vs.length = i ∧ AllK (ps ++ qs) vs ∧ Box d g S2 ∧ (∀ a, a ≠ d → a ≠ g → a ≠ pd → S2 a = S a) ∧ S2 pd = some (.dct ((posL (ps ++ qs) vs).map kvA)) ∧ δ' = [some (.own d), some (.dat (hookD name kind ps qs outs)), some (.own pd), c3, c4, c5], ?_, ?_, ?_⟩
    · exact ⟨[], _, _, _, rfl, fun _ _ _ _ h => by simp at h, hB1, kp1, e1, rfl⟩
    · rintro i δ' S2 hi ⟨vs, c3, c4, c5, hvl, hvk, hB2, kp2, e2, rfl⟩
      rw [List.length_map] at hi
      have hy := getD_map Pm.d (ps ++ qs) i hi
      simp only [hy]
      have hp := List.getElem?_eq_getElem hi
      have hmem := List.getElem_mem hi
      generalize (ps ++ qs)[i] = p at hp hmem
      have hst := hh.st p hmem
      have hpl : (posL (ps ++ qs) vs).length ≤ 3 := by unfold posL; rw [List.length_map, List.length_zip, List.length_append]; omega
      have hfr : getS (posL (ps ++ qs) vs) p.n = none := by rw [posL_get hnd hp, List.getElem?_eq_none (by omega)]
      have hpv : (ps ++ qs)[vs.length]? = some p := by rw [hvl]; exact hp
      refine wg_tup (n := 3) rfl (wgs_cons (wg_name (wgs_cons (wg_name (wgs_cons (wg_name (wgs_nil ?_)))))))
      walk_at "n"
      refine ws_seq (ws_dputS (we_call (wa_cons (we_var rfl (wa_cons (we_var rfl (wa_nil ⟨rfl, d, g, p.s, rfl, hst, hB2, fun v S3 hv hB3 hO3 => ?_⟩)))))))
      have e3 := (box_keep hO3 npd).trans e2
      refine we_var rfl (we_var rfl ⟨p.n, pd, _, rfl, rfl, e3, by rw [List.length_map]; omega, ?_⟩)
      rw [put_kv hfr, ← posL_snoc' hpv]
      have hB4 := hB3.set_ne' (o := .dct ((posL (ps ++ qs) (vs ++ [v])).map kvA)) npd.1 npd.2
      have e4 : (S3.set pd (.dct ((posL (ps ++ qs) (vs ++ [v])).map kvA))) pd = _ := set_same
      have kp4 : ∀ a, a ≠ d → a ≠ g → a ≠ pd → (S3.set pd (.dct ((posL (ps ++ qs) (vs ++ [v])).map kvA))) a = S a := fun a h1 h2 h3 => by rw [set_ne h3]; exact (hO3 a h1 h2).trans (kp2 a h1 h2 h3)
      generalize S3.set pd (.dct ((posL (ps ++ qs) (vs ++ [v])).map kvA)) = S4 at hB4 e4 kp4
      refine ws_if (wt_cut (fun b S5 => (b = true → p.s = "number") ∧ Box d g S5 ∧ Only2 d g S4 S5) ?_ ?_)
      · refine wt_and (wt_test (we_op (we_var rfl (we_str (w2_eqS ⟨_, rfl, ite2 (fun e => ?_) (fun _ => ⟨(fun z => nomatch z), hB4, Only2.refl _⟩)⟩)))))
        refine wt_test (we_op (we_call (wa_cons (we_var rfl (wa_cons (we_int (wa_nil ⟨rfl, d, g, 20, rfl, by decide, by decide, hB4, fun r S5 _ _ hB5 hO5 => we_int (w2_eqI ⟨_, rfl, fun _ => of_decide_eq_true e, hB5, hO5⟩)⟩)))))))
      rintro b S5 ⟨hb, hB5, hO5⟩
      have e5 := (box_keep hO5 npd).trans e4
      have kp5 : ∀ a, a ≠ d → a ≠ g → a ≠ pd → S5 a = S a := fun a h1 h2 h3 => (hO5 a h1 h2).trans (kp4 a h1 h2 h3)
      refine ite2 (fun e => ?_) (fun _ => ws_next ⟨vs ++ [v], _, _, _, by simp [hvl], hvk.snoc hpv (valK_of hv), hB5, kp5, e5, rfl⟩)
      refine ws_dputS (we_op (we_op (we_int (we_call (wa_cons (we_var rfl (wa_cons (we_int (wa_nil ⟨rfl, d, g, 3, rfl, by decide, by decide, hB5, fun r S6 r0 r1 hB6 hO6 => w2_sub ?_⟩)))))))))
      refine we_op (we_int (we_op (we_int (we_call (wa_cons (we_var rfl (wa_cons (we_int (wa_nil ⟨rfl, d, g, 2, rfl, by decide, by decide, hB6, fun t S7 t0 t1 hB7 hO7 => w2_mulI (.inl ⟨by decide, by decide⟩) (w2_sub (w2_mulI (.inl ⟨by omega, by omega⟩) ?_))⟩)))))))))
      have hO := hO6.trans hO7
      have e7 := (box_keep hO npd).trans e5
      have hpl2 : (posL (ps ++ qs) (vs ++ [v])).length ≤ 3 := by unfold posL; rw [List.length_map, List.length_zip, List.length_append]; omega
      refine we_var rfl (we_var rfl ⟨p.n, pd, _, rfl, rfl, e7, by rw [List.length_map]; omega, ?_⟩)
      rw [putA_kv, posL_snoc' hpv, putS_last hfr, ← posL_snoc' hpv]
      refine ⟨vs ++ [.int ((1000000 - r) * (1 - 2 * t))], _, _, _, by simp [hvl], hvk.snoc hpv ?_, hB7.set_ne' npd.1 npd.2, fun a h1 h2 h3 => by rw [set_ne h3]; exact (hO a h1 h2).trans (kp5 a h1 h2 h3), set_same, rfl⟩
      rw [hb e]
      have ht : t = 0 ∨ t = 1 := by omega
      refine .inr ⟨rfl, _, rfl, ?_⟩
      rcases ht with rfl | rfl <;> constructor <;> omega
    · rintro δ' S2 ⟨vs, c3, c4, c5, hvl, hvk, hB2, kp2, e2, rfl⟩
      rw [List.length_map] at hvl
      exact ⟨vs, _, _, _, hvl, hvk, hB2, kp2, e2, rfl⟩
  rintro δ' S2 ⟨vs, c3, c4, c5, hvl, hvk, hB2, kp2, e2, rfl⟩
  exact ws_ret (we_var rfl (k vs pd S2 hvl hvk hpd e2 hB2 kp2))
theorem ok_bound {f C fB CI : Addr} {fd fdB : FuncData} (T : Txt K mg) (hC : HookC K C) (F : Df K mg "_law_bound" ["_law_box_here", "_law_hook_here", "_law_model", "_law_call_here", "_law_wide"] s_bound f fd) (c_take : Cal P w K mg base 1 "_law_take" (SpA K 2 spTake)) (c_mixed : Cal P w K mg base 2 "_law_mixed" (SpA K 2 spMixed))
    (me_bind : Meth K C "bind" fB) (F_bind : FnOk P w K mg base (L2.CX P w) 4 fB fdB ["self", "args", "named"] (SpX K 3 (spBind C CI))) (b_bind : Binds K fdB ["self", "args", "named"] []) : Cal P w K mg base 6 "_law_bound" (SpA K 5 (spBound C)) := by
  have nd := sc_bound.nd
  have cl_Hook := hC.cl
  refine F.cal sc_bound (fun vs H Q E h => h.1) (fun cdv A outer s H vs Q E hr h => ?_)
  have hu := hu_of hr
  refine ⟨_, (pss_cons (ps_par (i := 5) (j := 6) (by rfl) nd rfl rfl (by decide) rfl rfl (pa_cons (pe_op (op_addK K) (pe_ix (ix_seqK K) (pv 2) pe_int (fun _ _ => rfl)) (pe_ix (ix_seqK K) (pv 2) pe_int (fun _ _ => rfl))) (pa_cons (pe_lst pa_nil) pa_nil)) (by rfl))
 (pss_cons (ps_for PassesOwn.never rfl (pi_listK K (pe_slice (sl_anyK K) (pv 5) (po_some (pv 4)) po_none)) (pg_tupK (n := 3) K rfl (pgs_cons (pg_name (i := 7) nd rfl (Or.inl rfl)) (pgs_cons (pg_name (i := 8) nd rfl (Or.inl rfl)) (pgs_cons (pg_name (i := 9) nd rfl (Or.inl rfl)) pgs_nil))))
 (pss_one (ps_if (PW.pt (pw_or (pt_cmpR (op_neK K hr.units) (pe_callB call_reprS (by rfl) T.b_repr (by decide +kernel) (pa_cons (pv 9) pa_nil)) (pe_callB call_reprS (by rfl) T.b_repr (by decide +kernel) (pa_cons (pe_dget hu (pv 3) (pv 7) (fun _ _ => rfl)) pa_nil)) (nomark _)) (pw_or1 (pt_cmpR (op_eqK K hr.units) (pe_c c_take hr (by omega) rfl (pa_cons (pv 0) (pa_cons pe_int pa_nil))) pe_int (nomark _)))))
 (pss_one (ps_expr (pe_bmK K PySem.F.plainAttrs_list PySem.F.slot_list_append PySem.F.type_list_append mt_append (pv 6) (pa_cons (pe_tup (pa_cons (pv 7) (pa_cons (pe_dget hu (pv 3) (pv 7) (fun _ _ => rfl)) pa_nil))) pa_nil))))
 pss_nil)))
 (pss_one (ps_ret (pe_methS (pv 1) cl_Hook me_bind F_bind (hr.mono (by omega)) b_bind (fun σ => pass0S σ) (pa_cons (pe_lc (own := [("_law_one", 10)]) (g := gName 10) (by rfl) nd (pi_listK K (pe_slice (sl_anyK K) (pv 5) po_none (po_some (pv 4)))) (blkOk_by (own := [("_law_one", 10)]) (N := ["_law_box_here", "_law_hook_here", "_law_model", "_law_call_here", "_law_wide", "_law_some", "_law_named", "_law_name", "_law_sort", "_law_default", "_law_one"]) (sc := defScope s_bound) (by decide +kernel)) (fun _ _ _ _ _ => (pg_name (i := 10) nd rfl (Or.inl rfl))) (fun _ _ _ _ _ => pts_nil) (fun _ _ _ _ _ => (pe_dget hu (pv 3) (pe_ix (ix_seqK K) (pv 10) pe_int (fun _ _ => rfl)) (fun _ _ => rfl)))) (pa_cons (pe_callTy (call_dictPk' K rfl) (by rfl) T.b_dict (by decide +kernel) (pa_cons (pe_c c_mixed hr (by omega) rfl (pa_cons (pv 0) (pa_cons (pv 6) pa_nil))) pa_nil)) pa_nil))))))), body_ok h (by decide) ?_⟩
  rintro as S P' - ⟨d, g, q, name, kind, outs, ps, qs, vs, W, rfl, hh, hB, hq, hvl, hvk, hW, k⟩
  walk_at "s"
  have hln := hh.len
  have hnd := hh.nd
  have hl3 : (ps ++ qs).length ≤ 3 := by rw [List.length_append]; exact hln
  have hWl : W ≤ (ps ++ qs).length := by rw [List.length_append]; omega
  refine ws_seq (ws_par (wa_cons (we_op (we_op (we_var rfl (we_int (w2_ixT (i := 2) (d := .list (ps.map Pm.d)) rfl (we_op (we_var rfl (we_int (w2_ixT (i := 3) (d := .list (qs.map Pm.d)) rfl (w2_addL nw_dat nw_dat (by simp; omega) ?_))))))))))))
  rw [← List.map_append]
  refine wa_cons (we_lstO (wa_nil ⟨by decide, fun pn hpn => wa_nil ⟨_, _, rfl, ?_⟩⟩))
  have npn := hB.ne_new hpn
  have hB1 := hB.set_ne' (o := .lst []) npn.1 npn.2
  have e1 : (S.set pn (.lst [])) pn = some (.lst (dats (([] : List (Str × PyData)).map Ov.pairD))) := set_same
  have kp1 : ∀ a, a ≠ d → a ≠ g → a ≠ pn → (S.set pn (.lst [])) a = S a := fun a _ _ h => set_ne h
  walk_at "n"
  generalize S.set pn (.lst []) = S1 at hB1 e1 kp1
  have valAt : ∀ {j : Nat} {p : Pm}, (ps ++ qs)[j]? = some p → ∃ v, vs[j]? = some v ∧ ValK p.s v ∧ getS (posL (ps ++ qs) vs) p.n = some v := by
    intro j p hp
    have hj : j < vs.length := by rw [hvl]; exact (List.getElem?_eq_some_iff.mp hp).1
    have hv := List.getElem?_eq_getElem hj
    exact ⟨_, hv, hvk j p _ hp hv, by rw [posL_get hnd hp]; exact hv⟩
  have iv0 : PIv ValK (ps ++ qs) W W (vs.take W) (vs.take W) [] := by
    refine ⟨by rw [List.length_take]; omega, by rw [List.take_take, Nat.min_self], by simp, by simp, fun _ h => by simp at h, fun j p v h1 h2 => ?_⟩
    have hj : j < W := by
      have := (List.getElem?_eq_some_iff.mp h2).1
      rw [List.length_take] at this
      omega
    rw [List.getElem?_take_of_lt hj] at h2
    exact ⟨hvk j p v h1 h2, fun z => by omega⟩
  refine ws_cut (fun δ' S2 => ∃ nl c7 c8 c9 c10, PIv ValK (ps ++ qs) W (ps ++ qs).length (vs.take W) vs nl ∧ Box d g S2 ∧ (∀ a, a ≠ d → a ≠ g → a ≠ pn → S2 a = S a) ∧ S2 pn = some (.lst (dats (nl.map Ov.pairD))) ∧ δ' = [some (.own d), some (.own q), some (.dat (hookD name kind ps qs outs)), some (.dat (.dict ((posL (ps ++ qs) vs).map kvD))), some (.dat (.int W)), some (.dat (.list ((ps ++ qs).map Pm.d))), some (.own pn), c7, c8, c9, c10]) ?_ ?_
  · refine ws_for (wi_list (we_sl (we_var rfl (wo_some (we_var rfl ⟨_, rfl, wo_none (wl_L nw_dat ?_)⟩)))))
    rw [cut_from, ← List.map_drop]
    refine ⟨_, rfl, fun i δ' S2 => ∃ nl c7 c8 c9 c10, PIv ValK (ps ++ qs) W (W + i) (vs.take W) (vs.take (W + i)) nl ∧ Box d g S2 ∧ (∀ a, a ≠ d → a ≠ g → a ≠ pn → S2 a = S a) ∧ S2 pn = some (.lst (dats (nl.map Ov.pairD))) ∧ δ' = [some (.own d), some (.own q), some (.dat (hookD name kind ps qs outs)), some (.dat (.dict ((posL (ps ++ qs) vs).map kvD))), some (.dat (.int W)), some (.dat (.list ((ps ++ qs).map Pm.d))), some (.own pn), c7, c8, c9, c10], ?_, ?_, ?_⟩
    · exact ⟨[], _, _, _, _, iv0, hB1, kp1, e1, rfl⟩
    · rintro i δ' S2 hi ⟨nl, c7, c8, c9, c10, iv, hB2, kp2, e2, rfl⟩
      rw [List.length_map] at hi
      have hy := getD_map Pm.d ((ps ++ qs).drop W) i hi
      simp only [hy]
      have hp0 := List.getElem?_eq_getElem hi
      generalize ((ps ++ qs).drop W)[i] = p at hp0
      rw [List.getElem?_drop] at hp0
      have hp := hp0
      have hmem := List.mem_of_getElem? hp
      obtain ⟨v, hv, hvv, hgt⟩ := valAt hp
      have hiw : W + i < (ps ++ qs).length := (List.getElem?_eq_some_iff.mp hp).1
      have htk : vs.take (W + i + 1) = vs.take (W + i) ++ [v] := by rw [List.take_add_one, hv]; rfl
      have hpv : p.v = .none ∨ FlD p.v := by
        rcases hh.vl p hmem with z | z
        · exact .inl z
        · exact .inr (val_fl z)
      have hpg : p.v.showable = true ∧ p.v.shown.length ≤ 98 ∧ plainD p.v = true := by
        rcases hh.vl p hmem with z | z
        · rw [z]; exact ⟨by decide +kernel, by decide +kernel, rfl⟩
        · exact ⟨(vg_val z).shw, (vg_val z).len, valK_plain (valK_of z)⟩
      have hvg := valK_vg hvv
      refine wg_tup (n := 3) rfl (wgs_cons (wg_name (wgs_cons (wg_name (wgs_cons (wg_name (wgs_nil ?_)))))))
      walk_at "n"
      refine ws_if (wt_cut (fun b S3 => (b = false → p.v = v ∧ isNone p.v = false) ∧ Box d g S3 ∧ Only2 d g S2 S3) ?_ ?_)
      · refine wt_or (wt_test (we_op (we_cb (wa_cons (we_var rfl (wa_nil (wc_reprS hpv hpg.1 (by have := hpg.2.1; omega) ?_)))))))
        refine we_cb (wa_cons (we_dgetD (we_var rfl (we_var rfl ⟨posL (ps ++ qs) vs, p.n, v, .inl rfl, rfl, hgt, wa_nil (wc_reprS (.inr (valK_fl hvv)) hvg.shw (by have := hvg.len; omega) (w2_neS ⟨_, rfl, ?_⟩))⟩))))
        by_cases e : p.v.shown = v.shown
        · rw [decide_eq_true e]
          have ev := shown_inj hpg.2.2 (valK_plain hvv) e
          refine iteF (wt_test (we_op (we_call (wa_cons (we_var rfl (wa_cons (we_int (wa_nil ⟨rfl, d, g, 2, rfl, by decide, by decide, hB2, fun r S3 _ _ hB3 hO3 => we_int (w2_eqI ⟨_, rfl, (fun _ => ⟨ev, ?_⟩), hB3, hO3⟩)⟩))))))))
          rw [ev]
          rcases valK_fl hvv with ⟨_, rfl⟩ | ⟨_, rfl⟩ <;> rfl
        · rw [decide_eq_false e]
          exact iteT ⟨(fun z => nomatch z), hB2, Only2.refl _⟩
      rintro b S3 ⟨hb, hB3, hO3⟩
      have e3 := (box_keep hO3 npn).trans e2
      have kp3 : ∀ a, a ≠ d → a ≠ g → a ≠ pn → S3 a = S a := fun a h1 h2 h3 => (hO3 a h1 h2).trans (kp2 a h1 h2 h3)
      refine ite2 (fun e => ?_) (fun e => ?_)
      · have hnl : nl.length ≤ 3 := by have := iv.hl; omega
        refine ws_drop (we_append (we_var rfl ⟨pn, rfl, ⟨_, e3⟩, wa_cons (we_tup (wa_cons (we_var rfl (wa_cons (we_dgetD ?_)))))⟩))
        refine we_var rfl (we_var rfl ⟨posL (ps ++ qs) vs, p.n, v, .inl rfl, rfl, hgt, wa_nil ⟨[.str p.n, v], rfl, by simp, wa_nil ⟨_, dats (nl.map Ov.pairD), rfl, e3, by simp [dats]; omega, ?_⟩⟩⟩)
        have iv2 := iv.nam hnd (by omega) hp hvv
        rw [← htk] at iv2
        exact ⟨nl ++ [(p.n, v)], _, _, _, _, iv2, hB3.set_ne' npn.1 npn.2, fun a h1 h2 h3 => by rw [set_ne h3]; exact kp3 a h1 h2 h3, by rw [set_same, List.map_append, ← dats_map]; rfl, rfl⟩
      · obtain ⟨ev, h0⟩ := hb (by simpa using e)
        have iv2 := iv.dfl hnd (by omega) hp (by rw [ev]; exact hvv) h0
        rw [ev, ← htk] at iv2
        exact ws_next ⟨nl, _, _, _, _, iv2, hB3, kp3, e3, rfl⟩
    · rintro δ' S2 ⟨nl, c7, c8, c9, c10, iv, hB2, kp2, e2, rfl⟩
      rw [List.length_map, List.length_drop, show W + ((ps ++ qs).length - W) = (ps ++ qs).length by omega, show vs.take (ps ++ qs).length = vs from List.take_of_length_le (by omega)] at iv
      exact ⟨nl, _, _, _, _, iv, hB2, kp2, e2, rfl⟩
  rintro δ' S2 ⟨nl, c7, c8, c9, c10, iv, hB2, kp2, e2, rfl⟩
  refine ws_freeze 6 rfl e2 ?_
  walk_at "n"
  have hqp : q ≠ pn := fun e => by rw [e, hpn] at hq; cases hq
  have nq : d ≠ q ∧ g ≠ q := by
    obtain ⟨_, ⟨n, s, t, z1⟩, ⟨ns, z2⟩⟩ := hB
    exact ⟨fun e => (by rw [e, hq] at z1; cases z1), fun e => (by rw [e, hq] at z2; cases z2)⟩
  have hB3 := hB2.del_ne' npn.1 npn.2
  have hq3 : (S2.del pn) q = some (.ins C (hookF name kind outs ps qs)) := by rw [Ov.del_ne hqp, kp2 q nq.1.symm nq.2.symm hqp]; exact hq
  have kp3 : ∀ a o, a ≠ d → a ≠ g → S a = some o → (S2.del pn) a = some o := fun a o h1 h2 ha => by
    have h3 : a ≠ pn := fun e => by rw [e, hpn] at ha; cases ha
    rw [Ov.del_ne h3, kp2 a h1 h2 h3]; exact ha
  have none3 : ∀ a, a ≠ d → a ≠ g → (S2.del pn) a = none → S a = none := fun a h1 h2 ha => by
    by_cases h3 : a = pn
    · rw [h3]; exact hpn
    · rw [Ov.del_ne h3, kp2 a h1 h2 h3] at ha; exact ha
  generalize S2.del pn = S3 at hB3 hq3 kp3 none3
  have hnl : nl.length ≤ 3 := by have := iv.hl; omega
  refine ws_ret (we_methS (we_var rfl ⟨q, _, rfl, hq3, bind_fld, ?_⟩))
  refine wa_cons (we_lcm (wip_name (by decide)) (wi_list (we_sl (we_var rfl (wo_none (wo_some (we_var rfl ⟨_, rfl, wl_L nw_dat ?_⟩)))))))
  rw [cut_to, ← List.map_take]
  refine ⟨_, rfl, by rw [List.length_map, List.length_take]; omega, fun i => vs.take i, rfl, ?_, ?_⟩
  · rintro i D hi hD
    rw [List.length_map] at hi
    have hiW : i < W := by rw [List.length_take] at hi; omega
    have hy := getD_map Pm.d ((ps ++ qs).take W) i hi
    simp only [hy]
    have hp := List.getElem?_eq_getElem hi
    generalize ((ps ++ qs).take W)[i] = p at hp
    rw [List.getElem?_take_of_lt hiW] at hp
    obtain ⟨v, hv, hvv, hgt⟩ := valAt hp
    refine wg_name ?_
    walk_at "n"
    refine wt_yes (iteT ?_)
    exact we_dgetD (we_var rfl (we_op (we_var rfl (we_int (w2_ixT (i := 0) (d := .str p.n) rfl ⟨posL (ps ++ qs) vs, p.n, v, .inl rfl, rfl, hgt, v, rfl, rfl, by rw [List.take_add_one, hv]; rfl⟩)))))
  rw [List.length_map, List.length_take, Nat.min_eq_left hWl]
  refine wa_cons (we_cb (wa_cons (we_call (wa_cons (we_var rfl (wa_cons (we_var rfl (wa_nil ⟨rfl, d, g, _, nl.map Ov.pairD, rfl, .inl rfl, by rw [List.length_map]; omega, hB3, fun es S4 hes hB4 hO4 => ?_⟩))))))))
  obtain ⟨nm, hp, rfl⟩ := perm_map hes nl rfl
  have hndm : (nm.map (·.1)).Nodup := (hp.map (·.1)).nodup_iff.mpr iv.hn
  have hbk := (PIv.fin (fun _ _ h => valK_sort h) iv hnd hW hWl).perm hp iv.hn
  have hq4 := (box_keep hO4 nq).trans hq3
  refine wa_nil (wc_dictP nw_dat hndm fun q2 hq2 => wa_nil ⟨rfl, ?_⟩)
  have g5 : Grow S4 (S4.set q2 (.dct (nm.map kvA))) := (Grow.refl S4).set hq2
  have hvsh : ∀ x ∈ vs, shortD x := fun x hx => by
    obtain ⟨j, hj⟩ := List.mem_iff_getElem?.mp hx
    have hj2 : j < (ps ++ qs).length := by rw [← hvl]; exact (List.getElem?_eq_some_iff.mp hj).1
    exact (valK_vg (hvk j _ x (List.getElem?_eq_getElem hj2) hj)).sd
  refine do_bind (nm := nm) hh hbk (g5 _ _ hq4) (.inl (.inl rfl)) (.inr ⟨q2, rfl, set_same⟩) hndm (by rw [hp.length_eq]; exact hnl) (by rw [List.length_take]; omega) (fun x hx => hvsh x (List.mem_of_mem_take hx)) (fun kv hk => ?_) fun r S5 gr hr e5 => ?_
  · obtain ⟨j, p, z1, z2, z3⟩ := hbk.hk kv hk
    obtain ⟨v, y1, y2, y3⟩ := valAt z2
    have e := getS_nd hndm kv hk
    rw [z3] at e
    rcases (hbk.hg j p v z2 y1).2.2 z1 with z | ⟨z, _⟩
    · rw [e] at z
      rw [Option.some.inj z]
      exact (valK_vg y2).sd
    · rw [e] at z; cases z
  · have hB5 := Box.keep (Box.keep hB4 g5) gr
    have nr := (Box.keep hB4 g5).ne_new hr
    have hr4 : S4 r = none := by
      by_cases e : r = q2
      · rw [e]; exact hq2
      · have := hr; rw [set_ne e] at this; exact this
    refine k r S5 hB5 (fun a o h1 h2 ha => ?_) (none3 r nr.1.symm nr.2.symm ((hO4 r nr.1.symm nr.2.symm).symm.trans hr4)) e5
    exact gr _ _ (g5 _ _ ((hO4 a h1 h2).trans (kp3 a o h1 h2 ha)))
end
end Hk
namespace Hk
open PySem PySem.Spec PyProof.Rows L2 Ov
abbrev s_law : Stmt := topS 33
theorem sc_law : FnScope ["_law_script", "_law_base", "_law_box_here", "_law_model", "_law_wide", "_law_hook_here", "_law_call_here", "_law_more", "_law_name", "_law_sort", "_law_default", "_law_found", "_law_other", "_law_one"] ["_law_script"] (defScope s_law) := ⟨rfl, rfl, rfl, by decide +kernel, rfl, by decide +kernel, by decide +kernel⟩
local macro_rules | `(tactic| walk_at "w") => `(tactic| with_reducible first
  | refine iteT ?_ | refine iteF ?_
  | refine ws_seq ?_ | refine ws_if ?_ | refine ws_set ?_ | refine ws_ret ?_ | refine ws_drop ?_ | refine ws_next ?_ | refine ws_dputS ?_ | refine we_andT ?_ | refine we_orT ?_
  | refine wt_test ?_ | refine wt_and ?_ | refine wt_or ?_ | refine wt_not ?_ | refine wt_truK ?_ | refine wt_B ?_
  | refine we_op ?_ | refine we_cb ?_ | refine we_dgetS ?_ | refine wa_cons ?_ | refine wa_nil ?_ | refine we_var rfl ?_ | refine we_int ?_ | refine we_str ?_ | refine we_bl ?_ | refine we_non ?_ | refine we_ty ?_
  | refine w2_addI ?_ | refine w2_eqS ?_ | refine w2_neS ?_ | refine w2_eqI ?_ | refine w2_neI ?_ | refine w2_sub ?_ | refine w2_I0 ?_ | refine we_call ?_ | refine we_un ?_ | refine w1_neg ?_ | refine we_sl ?_ | refine wo_none ?_ | refine wo_some ?_ | refine we_notT ?_ | refine we_if ?_ | refine we_join ?_ | refine we_split ?_ | refine we_tup ?_ | refine wt_yes ?_ | refine ⟨_, rfl, ?_⟩)
local macro_rules | `(tactic| walk_at "v") => `(tactic| with_reducible first
  | refine iteT ?_ | refine iteF ?_
  | refine ws_seq ?_ | refine ws_par ?_ | refine ws_set ?_ | refine ws_ret ?_ | refine ws_drop ?_ | refine ws_next ?_ | refine ws_dputS ?_ | refine we_andT ?_ | refine we_orT ?_
  | refine wt_test ?_ | refine wt_and ?_ | refine wt_or ?_ | refine wt_not ?_ | refine wt_truK ?_ | refine wt_B ?_
  | refine we_op ?_ | refine we_cb ?_ | refine we_dgetS ?_ | refine wa_cons ?_ | refine wa_nil ?_ | refine we_var rfl ?_ | refine we_int ?_ | refine we_str ?_ | refine we_bl ?_ | refine we_non ?_ | refine we_ty ?_
  | refine w2_addI ?_ | refine w2_eqS ?_ | refine w2_neS ?_ | refine w2_eqI ?_ | refine w2_neI ?_ | refine w2_sub ?_ | refine w2_I0 ?_ | refine we_call ?_ | refine we_un ?_ | refine w1_neg ?_ | refine we_sl ?_ | refine wo_none ?_ | refine wo_some ?_ | refine we_notT ?_ | refine we_join ?_ | refine we_split ?_ | refine we_tup ?_ | refine wt_yes ?_ | refine ⟨_, rfl, ?_⟩)
local macro_rules | `(tactic| walk_at "s") => `(tactic| simp only [nox_K, cx_K, startA, List.map_cons, List.map_nil, List.length_cons, List.length_nil, List.cons_append, List.nil_append, Nat.reduceAdd, Nat.reduceSub, List.reduceReplicate])
local macro_rules | `(tactic| walk_at "n") => `(tactic| (try dsimp only [wipeD, List.set_cons_zero, List.set_cons_succ]))
local macro_rules | `(tactic| walk_at "bg") => `(tactic| ((repeat walk_at "w"); refine ⟨_, _, _, _, rfl, rfl, by first | assumption | exact set_same, by first | exact box_great | exact box_now | exact box_seed | exact box_turn | exact wld_tests | exact wld_params | exact wld_plus | exact wld_gives, ?_⟩; (repeat walk_at "w")))
local macro_rules | `(tactic| walk_at "bp") => `(tactic| ((repeat walk_at "w"); refine ⟨_, _, _, rfl, rfl, by first | assumption | exact set_same, by first | exact box_len | exact wld_len, ?_⟩; first | rw [box_now_put] | rw [box_seed_put] | rw [box_turn_put] | rw [wld_tests_put] | rw [wld_plus_put]))
local macro_rules | `(tactic| walk_at "t") => `(tactic| first | refine ⟨_, dc dn, dl rfl, ?_⟩ | refine ⟨_, dc (dc dn), dl rfl, ?_⟩ | refine ⟨_, dc (dc (dc dn)), dl rfl, ?_⟩ | refine ⟨_, dc (dc (dc (dc dn))), dl rfl, ?_⟩ | refine ⟨_, dc (dc (dc (dc (dc dn)))), dl rfl, ?_⟩)

theorem on_ok : NameOk (Str.ofString "on") := ⟨by decide +kernel, by decide +kernel, by unfold lower; decide +kernel⟩
def kindG : List PyData := [.str "first", .str "through", .str "each"]
theorem kindG_at {i : Nat} {x : PyData} (h : kindG[i]? = some x) : ∃ s, x = .str s ∧ kindOk s := by
  have hm := List.mem_of_getElem? h
  simp only [kindG, List.mem_cons, List.not_mem_nil, or_false] at hm
  rcases hm with rfl | rfl | rfl
  · exact ⟨_, rfl, by first | exact .inl rfl | exact .inr (.inl rfl) | exact .inr (.inr rfl)⟩
  · exact ⟨_, rfl, by first | exact .inl rfl | exact .inr (.inl rfl) | exact .inr (.inr rfl)⟩
  · exact ⟨_, rfl, by first | exact .inl rfl | exact .inr (.inl rfl) | exact .inr (.inr rfl)⟩
section
variable {l : List Pm} {w : Nat} {vs : List PyData}
theorem bok_whole (hn : (l.map (·.n)).Nodup) (hv : vs.length = l.length) (ha : AllK l vs) : BOk l w [] (posL l vs) vs := by
  refine ⟨hn, Nat.zero_le _, hv, fun kv hk => ?_, fun j p v h1 h2 => ⟨valK_sort (ha j p v h1 h2), fun z => absurd z (by simp), fun _ => .inl ?_⟩⟩
  · obtain ⟨_, p, hp, e⟩ := posL_vals hk
    obtain ⟨j, hj⟩ := List.mem_iff_getElem?.mp hp
    exact ⟨j, p, by simp, hj, e⟩
  · rw [posL_get hn h1]; exact h2
theorem allK_kv (ha : AllK l vs) : ∀ kv ∈ posL l vs, ∃ p ∈ l, kv.1 = p.n ∧ ValK p.s kv.2 := fun kv hk => by
  unfold posL at hk
  obtain ⟨x, hx, rfl⟩ := List.mem_map.mp hk
  obtain ⟨j, hj⟩ := List.mem_iff_getElem?.mp hx
  obtain ⟨h1, h2⟩ := List.getElem?_zip_eq_some.mp hj
  exact ⟨x.1, List.mem_of_getElem? h1, rfl, ha j _ _ h1 h2⟩
theorem posL_map {v : PyData} : ∀ {l : List Pm} {vs : List PyData} {i : Nat} {p : Pm}, (l.map (·.n)).Nodup → l[i]? = some p → ((posL l vs).map fun kv => if kv.1 = p.n then (kv.1, v) else kv) = posL l (vs.set i v)
  | [], _, _, _, _, h => by simp at h
  | _ :: _, [], _, _, _, _ => by simp [posL]
  | q :: l, u :: vs, 0, p, hn, h => by
    simp at h
    subst h
    rw [List.map_cons, List.nodup_cons] at hn
    rw [List.set_cons_zero, posL_cons, posL_cons, List.map_cons, if_pos rfl]
    refine congrArg _ ((List.map_congr_left fun kv hk => ?_).trans (List.map_id _))
    obtain ⟨_, r, hr, e⟩ := posL_vals hk
    rw [if_neg (fun z => hn.1 (by rw [← z, e]; exact List.mem_map_of_mem hr))]
    rfl
  | q :: l, u :: vs, i + 1, p, hn, h => by
    rw [List.map_cons, List.nodup_cons] at hn
    have h' : l[i]? = some p := by simpa using h
    rw [List.set_cons_succ, posL_cons, posL_cons, List.map_cons, if_neg (fun z : q.n = p.n => hn.1 (by rw [z]; exact List.mem_map_of_mem (List.mem_of_getElem? h'))), posL_map hn.2 h']
theorem posL_put {v : PyData} {i : Nat} {p : Pm} (hn : (l.map (·.n)).Nodup) (hv : vs.length = l.length) (hp : l[i]? = some p) : putS (posL l vs) p.n v = posL l (vs.set i v) := by
  unfold putS
  rw [if_pos ?_, posL_map hn hp]
  rw [posL_keys (by omega), hv, List.take_of_length_le (by simp)]
  exact List.mem_map_of_mem (List.mem_of_getElem? hp)
theorem AllK.set {v : PyData} {i : Nat} {p : Pm} (ha : AllK l vs) (hp : l[i]? = some p) (hv : ValK p.s v) : AllK l (vs.set i v) := fun j q u h1 h2 => by
  by_cases e : i = j
  · subst e
    rw [hp] at h1
    cases h1
    rw [List.getElem?_set_self' ] at h2
    cases hx : vs[i]? with
    | none => rw [hx] at h2; cases h2
    | some y => rw [hx] at h2; cases h2; exact hv
  · rw [List.getElem?_set_ne e] at h2
    exact ha j q u h1 h2
end
section
variable {P : Program} {w : World} {K : PySem.W.Frag} {mg : Str → Option Value} {base : Heap}
theorem w2_neDs {S : Sto} {a b : AV} {P : Po} {nm : List (Str × PyData)} (h1 : Dk S a nm) (h2 : Dk S b nm) (f : ∀ kv ∈ nm, FlD kv.2) (nd : (nm.map (·.1)).Nodup) (p : P (.dat (.bool false)) S) : W2 K rNeDf a b S P := w2_neDf h1 h2 f f (by rw [eqK_self nd f]; exact p)
theorem ok_law {f C fB CI : Addr} {fd fdB : FuncData} (T : Txt K mg) (hC : HookC K C) (F : Df K mg "law" ["_law_script"] s_law f fd)
    (c_box : Cal P w K mg base 1 "_law_box" (SpA K 2 spBox)) (c_take : Cal P w K mg base 1 "_law_take" (SpA K 2 spTake)) (c_pick : Cal P w K mg base 2 "_law_pick" (SpA K 2 spPick)) (c_hook : Cal P w K mg base 4 "_law_hook" (SpA K 3 spHook)) (c_hook_of : Cal P w K mg base 7 "_law_hook_of" (SpA K 1 (spHookOf C))) (c_call : Cal P w K mg base 4 "_law_call" (SpA K 2 spCall)) (c_bound : Cal P w K mg base 6 "_law_bound" (SpA K 5 (spBound C)))
    (me_bind : Meth K C "bind" fB) (F_bind : FnOk P w K mg base (L2.CX P w) 4 fB fdB ["self", "args", "named"] (SpX K 3 (spBind C CI))) (b_bind : Binds K fdB ["self", "args", "named"] []) :
    FnG P w K mg base 8 f fd ["_law_script"] (SpA K 1 (spLaw 63)) := by
  have nd := sc_law.nd
  have cl_Hook := hC.cl
  refine F.fnG sc_law (fun vs H Q E h => h.1) (fun cdv A outer s H vs Q E hG hr h => ?_)
  have hu := hu_of hr
  refine ⟨_, (pss_cons (ps_for PassesOwn.never rfl (pi_range1 (by rfl) T.b_range (pa_cons pe_int pa_nil)) (pg_name (i := 1) nd rfl (Or.inl rfl))
 (pss_cons (ps_set (i := 2) nd rfl (Or.inr rfl) (pe_c c_box hr (by omega) rfl (pa_cons (pv 0) (pa_cons (pv 1) pa_nil))))
 (pss_cons (ps_set (i := 3) nd rfl (Or.inr rfl) (pe_c c_hook hr (by omega) rfl (pa_cons (pv 2) (pa_cons pe_str (pa_cons (pe_c c_pick hr (by omega) rfl (pa_cons (pv 2) (pa_cons (pe_lst (pa_cons pe_str (pa_cons pe_str (pa_cons pe_str pa_nil)))) pa_nil))) pa_nil)))))
 (pss_cons (ps_asg (pe_tup (pa_cons (pe_c c_hook_of hr (by omega) rfl (pa_cons (pv 3) pa_nil)) (pa_cons (pe_c c_call hr (by omega) rfl (pa_cons (pv 2) (pa_cons (pv 3) pa_nil))) (pa_cons (pe_c c_call hr (by omega) rfl (pa_cons (pv 2) (pa_cons (pv 3) pa_nil))) pa_nil)))) (pg_tupK (n := 3) K rfl (pgs_cons (pg_name (i := 5) nd rfl (Or.inr rfl)) (pgs_cons (pg_name (i := 6) nd rfl (Or.inl rfl)) (pgs_cons (pg_name (i := 7) nd rfl (Or.inl rfl)) pgs_nil)))))
 (pss_cons (ps_for PassesOwn.never rfl (pi_listK K (pe_op (op_addK K) (pe_ix (ix_seqK K) (pv 3) pe_int (fun _ _ => rfl)) (pe_ix (ix_seqK K) (pv 3) pe_int (fun _ _ => rfl)))) (pg_tupK (n := 3) K rfl (pgs_cons (pg_name (i := 8) nd rfl (Or.inl rfl)) (pgs_cons (pg_name (i := 9) nd rfl (Or.inl rfl)) (pgs_cons (pg_name (i := 10) nd rfl (Or.inl rfl)) pgs_nil))))
 (pss_one (ps_if (PW.pt (pw_and (pt_cmpR (op_notN) (pv 10) pe_non (nomark _)) (pw_and1 (pt_cmpR (op_eqK K hr.units) (pe_c c_take hr (by omega) rfl (pa_cons (pv 2) (pa_cons pe_int pa_nil))) pe_int (nomark _)))))
 (pss_one (ps_dput hu (pv 6) (pv 8) (pv 10) rfl))
 pss_nil)))
 (pss_one (ps_for PassesOwn.never rfl (pi_range1 (by rfl) T.b_range (pa_cons (pe_op (op_addK K) (pe_callB (call_lenK K) (by rfl) T.b_len (by decide +kernel) (pa_cons (pe_ix (ix_seqK K) (pv 3) pe_int (fun _ _ => rfl)) pa_nil)) pe_int) pa_nil)) (pg_name (i := 4) nd rfl (Or.inr rfl))
 (pss_cons (ps_asg (pe_lc (own := [("_law_one", 13)]) (g := gName 13) (by rfl) nd (pi_tupK K (pe_tup (pa_cons (pv 6) (pa_cons (pv 7) pa_nil)))) (blkOk_by (own := [("_law_one", 13)]) (N := ["_law_script", "_law_base", "_law_box_here", "_law_model", "_law_wide", "_law_hook_here", "_law_call_here", "_law_more", "_law_name", "_law_sort", "_law_default", "_law_found", "_law_other", "_law_one"]) (sc := defScope s_law) (by decide +kernel)) (fun _ _ _ _ _ => (pg_name (i := 13) nd rfl (Or.inl rfl))) (fun _ _ _ _ _ => pts_nil) (fun _ _ _ _ _ => (pe_c c_bound hr (by omega) rfl (pa_cons (pv 2) (pa_cons (pv 5) (pa_cons (pv 3) (pa_cons (pv 13) (pa_cons (pv 4) pa_nil)))))))) (pg_lstK (n := 2) K rfl (pgs_cons (pg_name (i := 11) nd rfl (Or.inl rfl)) (pgs_cons (pg_name (i := 12) nd rfl (Or.inl rfl)) pgs_nil))))
 (pss_cons (ps_if (PW.pt (pw_or (pt_cmpR (op_neK K hr.units) (pe_callB (call_reprZ K hG hr.units) (by rfl) T.b_repr (by decide +kernel) (pa_cons (pe_callB (cr_sortKv rfl) (by rfl) T.b_sorted (by decide +kernel) (pa_cons (pe_bm0K K PySem.F.plainAttrs_dict PySem.F.slot_dict_items PySem.F.type_dict_items mt_itemsK (pv 11)) pa_nil)) pa_nil)) (pe_callB (call_reprZ K hG hr.units) (by rfl) T.b_repr (by decide +kernel) (pa_cons (pe_callB (cr_sortKv rfl) (by rfl) T.b_sorted (by decide +kernel) (pa_cons (pe_bm0K K PySem.F.plainAttrs_dict PySem.F.slot_dict_items PySem.F.type_dict_items mt_itemsK (pv 6)) pa_nil)) pa_nil)) (nomark _)) (pw_or1 (pt_cmpR (op_ne_df hr.units) (pv 12) (pv 7) (nomark _)))))
 (pss_one (ps_ret pe_bl))
 pss_nil)
 (pss_one (ps_if (PW.pt (pw_or (pt_cmpR (op_neK K hr.units) (pe_cmpR (op_eq_df hr.units) (pv 11) (pv 12) (nomark _)) (pe_cmpR (op_eq_df hr.units) (pv 6) (pv 7) (nomark _)) (nomark _)) (pw_or1 (pt_cmpR (op_ne_df hr.units) (pe_methS (pv 5) cl_Hook me_bind F_bind (hr.mono (by omega)) b_bind (fun σ => pass0S σ) (pa_cons (pe_tup pa_nil) (pa_cons (pv 11) pa_nil))) (pv 6) (nomark _)))))
 (pss_one (ps_ret pe_bl))
 pss_nil)))))))))))
 (pss_one (ps_ret pe_bl))), body_ok h (by decide) ?_⟩
  rintro as S P' - ⟨ns, rfl, hn, kk⟩
  walk_at "s"
  refine ws_seq (ws_for (wi_range (wa_cons (we_int (wa_nil ⟨4, rfl, by decide, fun _ δ' S' => ∃ c1 c2 c3 c4 c5 c6 c7 c8 c9 c10 c11 c12 c13, δ' = [some (.scr ns), c1, c2, c3, c4, c5, c6, c7, c8, c9, c10, c11, c12, c13], ?_, ?_, ?_⟩)))))
  · exact ⟨_, _, _, _, _, _, _, _, _, _, _, _, _, rfl⟩
  · rintro i δ' S1 hi ⟨c1, c2, c3, c4, c5, c6, c7, c8, c9, c10, c11, c12, c13, rfl⟩
    refine wg_name ?_
    walk_at "n"
    refine ws_seq (ws_set (we_call (wa_cons (we_var rfl (wa_cons (we_var rfl (wa_nil ⟨rfl, ns, i, rfl, by omega, by omega, fun d g S2 _ _ hB2 _ => ?_⟩)))))))
    walk_at "n"
    refine ws_seq (ws_set (we_call (wa_cons (we_var rfl (wa_cons (we_str (wa_cons (we_call (wa_cons (we_var rfl (wa_cons (we_lst (wa_cons (we_str (wa_cons (we_str (wa_cons (we_str (wa_nil ⟨kindG, rfl, by decide, wa_nil ⟨rfl, d, g, kindG, rfl, by decide, by decide, hB2, fun j x S3 hx hB3 hO3 => ?_⟩⟩)))))))))))))))))))
    obtain ⟨kind, rfl, hkd⟩ := kindG_at hx
    refine wa_nil ⟨rfl, d, g, Str.ofString "on", kind, rfl, hkd, hB3, fun ps qs outs S4 hh hB4 hO4 => ?_⟩
    walk_at "n"
    generalize hnm : Str.ofString "on" = name
    have hname : NameOk name := hnm ▸ on_ok
    have hnd := hh.nd
    have hlp := hh.len
    have hdl : (ps ++ qs).length ≤ 3 := by rw [List.length_append]; exact hh.len
    refine ws_seq (ws_asg (we_tupO (wa_cons (we_call (wa_cons (we_var rfl (wa_nil ⟨rfl, name, kind, outs, ps, qs, rfl, hh, hname, hkd, fun q hq => ?_⟩)))))))
    have nq := hB4.ne_new hq
    have hB5 := hB4.set_ne' (o := .ins C (hookF name kind outs ps qs)) nq.1 nq.2
    have hq5 : (S4.set q (.ins C (hookF name kind outs ps qs))) q = some (.ins C (hookF name kind outs ps qs)) := set_same
    generalize S4.set q (.ins C (hookF name kind outs ps qs)) = S5 at hB5 hq5
    refine wa_cons (we_call (wa_cons (we_var rfl (wa_cons (we_var rfl (wa_nil ⟨rfl, d, g, name, kind, outs, ps, qs, rfl, hh, hB5, fun vs q1 S6 hv1 ha1 hn1 e1 hB6 kp6 => ?_⟩))))))
    have nq1 := hB5.ne_new hn1
    have hqq1 : q ≠ q1 := fun e => by rw [e, hn1] at hq5; cases hq5
    have hq6 := (kp6 q nq.1.symm nq.2.symm hqq1).trans hq5
    refine wa_cons (we_call (wa_cons (we_var rfl (wa_cons (we_var rfl (wa_nil ⟨rfl, d, g, name, kind, outs, ps, qs, rfl, hh, hB6, fun us q2 S7 hv2 ha2 hn2 e2 hB7 kp7 => ?_⟩))))))
    have nq2 := hB6.ne_new hn2
    have hqq2 : q ≠ q2 := fun e => by rw [e, hn2] at hq6; cases hq6
    have hq12 : q1 ≠ q2 := fun e => by rw [e, hn2] at e1; cases e1
    have hq7 := (kp7 q nq.1.symm nq.2.symm hqq2).trans hq6
    have e1' := (kp7 q1 nq1.1.symm nq1.2.symm hq12).trans e1
    refine wa_nil ⟨by simp, fun t ht => ?_⟩
    have g8 : Grow S7 (S7.set t (.tup [.own q, .own q1, .own q2])) := (Grow.refl S7).set ht
    refine wg_tupO set_same (by rfl) (wgs_cons (wg_name (wgs_cons (wg_name (wgs_cons (wg_name (wgs_nil ?_)))))))
    walk_at "n"
    have hB8 : Box d g (S7.set t (.tup [.own q, .own q1, .own q2])) := Box.keep hB7 g8
    have hq8 := g8 _ _ hq7
    have e18 := g8 _ _ e1'
    have e28 := g8 _ _ e2
    generalize S7.set t (.tup [.own q, .own q1, .own q2]) = S8 at hB8 hq8 e18 e28
    -- some values are those that stand as they are
    refine ws_cut (fun δ' S9 => ∃ vs c4 c8 c9 c10, vs.length = (ps ++ qs).length ∧ AllK (ps ++ qs) vs ∧ Box d g S9 ∧ S9 q = some (.ins C (hookF name kind outs ps qs)) ∧ S9 q1 = some (.dct ((posL (ps ++ qs) vs).map kvA)) ∧ S9 q2 = some (.dct ((posL (ps ++ qs) us).map kvA)) ∧ δ' = [some (.scr ns), some (.dat (.int i)), some (.own d), some (.dat (hookD name kind ps qs outs)), c4, some (.own q), some (.own q1), some (.own q2), c8, c9, c10, c11, c12, c13]) ?_ ?_
    · refine ws_for (wi_list (we_op (we_op (we_var rfl (we_int (w2_ixT (i := 2) (d := .list (ps.map Pm.d)) rfl (we_op (we_var rfl (we_int (w2_ixT (i := 3) (d := .list (qs.map Pm.d)) rfl (w2_addL nw_dat nw_dat (by simp; omega) ?_)))))))))))
      rw [← List.map_append]
      refine ⟨_, rfl, fun k δ' S9 => ∃ vs c4 c8 c9 c10, vs.length = (ps ++ qs).length ∧ AllK (ps ++ qs) vs ∧ Box d g S9 ∧ S9 q = some (.ins C (hookF name kind outs ps qs)) ∧ S9 q1 = some (.dct ((posL (ps ++ qs) vs).map kvA)) ∧ S9 q2 = some (.dct ((posL (ps ++ qs) us).map kvA)) ∧ δ' = [some (.scr ns), some (.dat (.int i)), some (.own d), some (.dat (hookD name kind ps qs outs)), c4, some (.own q), some (.own q1), some (.own q2), c8, c9, c10, c11, c12, c13], ?_, ?_, ?_⟩
      · exact ⟨vs, _, _, _, _, hv1, ha1, hB8, hq8, e18, e28, rfl⟩
      · rintro k δ' S9 hk ⟨vs, c4, c8, c9, c10, hv, ha, hB9, hq9, e19, e29, rfl⟩
        rw [List.length_map] at hk
        have hy := getD_map Pm.d (ps ++ qs) k hk
        simp only [hy]
        have hp := List.getElem?_eq_getElem hk
        have hmem := List.getElem_mem hk
        generalize (ps ++ qs)[k] = p at hp hmem
        refine wg_tup (n := 3) rfl (wgs_cons (wg_name (wgs_cons (wg_name (wgs_cons (wg_name (wgs_nil ?_)))))))
        walk_at "n"
        refine ws_if (wt_cut (fun b S10 => (b = true → isNone p.v = false) ∧ Box d g S10 ∧ Only2 d g S9 S10) ?_ ?_)
        · refine wt_and (wt_test (we_op (we_var rfl (we_non (w2_notN nw_dat ⟨_, rfl, ?_⟩)))))
          cases hnv : isNone p.v with
          | true => exact iteF ⟨(fun z => nomatch z), hB9, Only2.refl _⟩
          | false => exact iteT (wt_test (we_op (we_call (wa_cons (we_var rfl (wa_cons (we_int (wa_nil ⟨rfl, d, g, 2, rfl, by decide, by decide, hB9, fun r S10 _ _ hB10 hO10 => we_int (w2_eqI ⟨_, rfl, (fun _ => rfl), hB10, hO10⟩)⟩))))))))
        rintro b S10 ⟨hb, hB10, hO10⟩
        have hq10 := (box_keep hO10 nq).trans hq9
        have e1x := (box_keep hO10 nq1).trans e19
        have e2x := (box_keep hO10 nq2).trans e29
        refine ite2 (fun e => ?_) (fun _ => ws_next ⟨vs, _, _, _, _, hv, ha, hB10, hq10, e1x, e2x, rfl⟩)
        have h0 := hb e
        have hvv : ValK p.s p.v := by
          rcases hh.vl p hmem with z | z
          · rw [z] at h0; cases h0
          · exact valK_of z
        have hpl : (posL (ps ++ qs) vs).length ≤ 3 := by unfold posL; rw [List.length_map, List.length_zip]; omega
        refine ws_dputS (we_var rfl (we_var rfl (we_var rfl ⟨p.n, q1, _, rfl, rfl, e1x, by rw [List.length_map]; omega, ?_⟩)))
        rw [putA_kv, posL_put hnd hv hp]
        exact ⟨vs.set k p.v, _, _, _, _, by rw [List.length_set]; exact hv, ha.set hp hvv, hB10.set_ne' nq1.1 nq1.2, by rw [set_ne hqq1]; exact hq10, set_same, by rw [set_ne hq12.symm]; exact e2x, rfl⟩
      · rintro δ' S9 ⟨vs, c4, c8, c9, c10, hv, ha, hB9, hq9, e19, e29, rfl⟩
        exact ⟨vs, _, _, _, _, hv, ha, hB9, hq9, e19, e29, rfl⟩
    clear hv1 ha1 e1 e1' e18 vs
    rintro δ' S9 ⟨vs, c4, c8, c9, c10, hv, ha, hB9, hq9, e19, e29, rfl⟩
    refine ws_freezeD 6 rfl e19 (ws_freezeD 7 rfl (by rw [Ov.del_ne hq12.symm]; exact e29) ?_)
    walk_at "n"
    have hBx := (hB9.del_ne' nq1.1 nq1.2).del_ne' nq2.1 nq2.2
    have hqx : ((S9.del q1).del q2) q = some (.ins C (hookF name kind outs ps qs)) := by rw [Ov.del_ne hqq2, Ov.del_ne hqq1]; exact hq9
    generalize (S9.del q1).del q2 = Sx at hBx hqx
    have hw1 : BOk (ps ++ qs) ps.length [] (posL (ps ++ qs) vs) vs := bok_whole hnd hv ha
    have hw2 : BOk (ps ++ qs) ps.length [] (posL (ps ++ qs) us) us := bok_whole hnd hv2 ha2
    have k1 := allK_kv ha
    have k2 := allK_kv ha2
    have n1 := posL_nd hw1
    have n2 := posL_nd hw2
    have l1 : (posL (ps ++ qs) vs).length ≤ 3 := by unfold posL; rw [List.length_map, List.length_zip]; omega
    have f1 : ∀ kv ∈ posL (ps ++ qs) vs, FlD kv.2 := fun kv hk => let ⟨p, h1, h2, h3⟩ := k1 kv hk; valK_fl h3
    have f2 : ∀ kv ∈ posL (ps ++ qs) us, FlD kv.2 := fun kv hk => let ⟨p, h1, h2, h3⟩ := k2 kv hk; valK_fl h3
    have x1 : ∀ kv ∈ posL (ps ++ qs) vs, KOk kv.1 ∧ VG kv.2 := fun kv hk => let ⟨p, h1, h2, h3⟩ := k1 kv hk; ⟨h2 ▸ (hh.nm p h1).1.k, valK_vg h3⟩
    refine ws_for (wi_range (wa_cons (we_op (we_cb (wa_cons (we_op (we_var rfl (we_int (w2_ixT (i := 2) (d := .list (ps.map Pm.d)) rfl (wa_nil (wc_len (.inl ⟨_, nw_dat, rfl⟩) (we_int (w2_addI ?_)))))))))))))
    rw [List.length_map]
    refine wa_nil ⟨ps.length + 1, by simp, by omega, fun _ δ' S' => Box d g S' ∧ S' q = some (.ins C (hookF name kind outs ps qs)) ∧ ∃ c4 c8 c9 c10 c11 c12 c13, δ' = [some (.scr ns), some (.dat (.int i)), some (.own d), some (.dat (hookD name kind ps qs outs)), c4, some (.own q), some (.dat (.dict ((posL (ps ++ qs) vs).map kvD))), some (.dat (.dict ((posL (ps ++ qs) us).map kvD))), c8, c9, c10, c11, c12, c13], ?_, ?_, ?_⟩
    · exact ⟨hBx, hqx, _, _, _, _, _, _, _, rfl⟩
    · rintro W δ' Sa hW ⟨hBa, hqa, c4, c8, c9, c10, c11, c12, c13, rfl⟩
      refine wg_name ?_
      walk_at "n"
      refine ws_seq (ws_asg (we_lcA (wip_name (by decide)) (ww_tupT (wa_cons (we_var rfl (wa_cons (we_var rfl (wa_nil ⟨by simp, by simp, fun D hD => ?_⟩))))))))
      have nD := hBa.ne_new hD
      have hqD : q ≠ D := fun e => by rw [e, hD] at hqa; cases hqa
      refine ⟨fun m acc S' => Box d g S' ∧ S' q = some (.ins C (hookF name kind outs ps qs)) ∧ (m = 0 → acc = []) ∧ (m = 1 → ∃ r1, r1 ≠ D ∧ (d ≠ r1 ∧ g ≠ r1) ∧ acc = [.own r1] ∧ S' r1 = some (.dct ((posL (ps ++ qs) vs).map kvA))) ∧ (m = 2 → ∃ r1 r2, acc = [.own r1, .own r2] ∧ S' r1 = some (.dct ((posL (ps ++ qs) vs).map kvA)) ∧ S' r2 = some (.dct ((posL (ps ++ qs) us).map kvA))), ?_, ?_, ?_⟩
      · exact ⟨hBa.set_ne' nD.1 nD.2, by rw [set_ne hqD]; exact hqa, fun _ => rfl, fun z => by omega, fun z => by omega⟩
      · rintro m acc S' hm _ hD' ⟨hBm, hqm, i0, i1, i2⟩
        refine wg_name ?_
        walk_at "n"
        refine wt_yes (iteT ?_)
        have hm2 : m = 0 ∨ m = 1 := by
          have : m < 2 := hm
          omega
        rcases hm2 with rfl | rfl
        · have := i0 rfl
          subst this
          refine we_call (wa_cons (we_var rfl (wa_cons (we_var rfl (wa_cons (we_var rfl (wa_cons (we_var rfl (wa_cons (we_var rfl (wa_nil ⟨rfl, d, g, q, name, kind, outs, ps, qs, vs, W, rfl, hh, hBm, hqm, hv, ha, by omega, fun r S4 hB4 kp4 hr4 er4 => ?_⟩)))))))))))
          have hrD : r ≠ D := fun e => by rw [e, hD'] at hr4; cases hr4
          refine ⟨kp4 D _ nD.1.symm nD.2.symm hD', hB4.set_ne' nD.1 nD.2, by rw [set_ne hqD]; exact kp4 q _ nq.1.symm nq.2.symm hqm, fun z => by omega, fun _ => ⟨r, hrD, hBm.ne_new hr4, rfl, by rw [set_ne hrD]; exact er4⟩, fun z => by omega⟩
        · obtain ⟨r1, hr1D, nr1, rfl, er1⟩ := i1 rfl
          refine we_call (wa_cons (we_var rfl (wa_cons (we_var rfl (wa_cons (we_var rfl (wa_cons (we_var rfl (wa_cons (we_var rfl (wa_nil ⟨rfl, d, g, q, name, kind, outs, ps, qs, us, W, rfl, hh, hBm, hqm, hv2, ha2, by omega, fun r S4 hB4 kp4 hr4 er4 => ?_⟩)))))))))))
          have hrD : r ≠ D := fun e => by rw [e, hD'] at hr4; cases hr4
          refine ⟨kp4 D _ nD.1.symm nD.2.symm hD', hB4.set_ne' nD.1 nD.2, by rw [set_ne hqD]; exact kp4 q _ nq.1.symm nq.2.symm hqm, fun z => by omega, fun z => by omega, fun _ => ⟨r1, r, rfl, by rw [set_ne hr1D]; exact kp4 r1 _ nr1.1.symm nr1.2.symm er1, by rw [set_ne hrD]; exact er4⟩⟩
      · rintro acc Sb _ hDb ⟨hBb, hqb, _, _, i2⟩
        obtain ⟨r1, r2, rfl, er1, er2⟩ := i2 rfl
        refine wg_lstO hDb (by rfl) (wgs_cons (wg_name (wgs_cons (wg_name (wgs_nil ?_)))))
        walk_at "n"
        have tx2 : ∀ ys : List (Str × PyData), ys.Perm (posL (ps ++ qs) vs) → (PyData.list (ys.map Ov.pairD)).showable = true ∧ (PyData.list (ys.map Ov.pairD)).depth ≤ 60 ∧ (PyData.list (ys.map Ov.pairD)).shown.length ≤ 10000000 := fun ys hp => prs_shown (fun kv hk => x1 kv (hp.mem_iff.mp hk)) (by rw [hp.length_eq]; omega)
        refine ws_seq (ws_if (wt_or (wt_test (we_op (we_cb (wa_cons (we_sortKv (we_var rfl ⟨posL (ps ++ qs) vs, .inr ⟨r1, rfl, er1⟩, by omega, f1, fun ys1 p1 o1 => ?_⟩))))))))
        obtain ⟨b1, b2, b3⟩ := tx2 ys1 p1
        refine wa_nil (wc_reprZ (.dat _) (.inr (.inl ⟨_, rfl⟩)) b1 b2 b3 (we_cb (wa_cons (we_sortKv (we_var rfl ⟨posL (ps ++ qs) vs, .inl rfl, by omega, f1, fun ys2 p2 o2 => ?_⟩)))))
        have ey : ys1 = ys2 := sort_kv p1 o1 p2 o2 n1
        subst ey
        refine wa_nil (wc_reprZ (.dat _) (.inr (.inl ⟨_, rfl⟩)) b1 b2 b3 (w2_neS_same rfl ⟨_, rfl, iteF ?_⟩))
        refine wt_test (we_op (we_var rfl (we_var rfl (w2_neDs (.inr ⟨r2, rfl, er2⟩) (.inl rfl) f2 n2 ⟨_, rfl, iteF (ws_next ?_)⟩))))
        refine ws_if (wt_or (wt_test (we_op (we_op (we_var rfl (we_var rfl (w2_eqDf (.inr ⟨r1, rfl, er1⟩) (.inr ⟨r2, rfl, er2⟩) f1 f2 ?_)))))))
        refine we_op (we_var rfl (we_var rfl (w2_eqDf (.inl rfl) (.inl rfl) f1 f2 (w2_neB_same rfl ⟨_, rfl, iteF ?_⟩))))
        refine wt_test (we_op (we_methS (we_var rfl ⟨q, _, rfl, hqb, bind_fld, ?_⟩)))
        refine wa_cons (we_tup (wa_nil ⟨[], rfl, by simp, ?_⟩))
        refine wa_cons (we_var rfl (wa_nil ⟨rfl, do_bind hh hw1 hqb (.inl (.inr rfl)) (.inr ⟨r1, rfl, er1⟩) n1 l1 (by simp) (by simp) (fun kv hk => (x1 kv hk).2.sd) fun r3 Sc gc hrc ec => ?_⟩))
        refine we_var rfl (w2_neDs (.inr ⟨r3, rfl, ec⟩) (.inl rfl) f1 n1 ⟨_, rfl, iteF (ws_next ?_)⟩)
        exact ⟨Box.keep hBb gc, gc _ _ hqb, _, _, _, _, _, _, _, rfl⟩
    · rintro δ' S6 ⟨_, _, c4, c8, c9, c10, c11, c12, c13, rfl⟩
      exact ⟨_, _, _, _, _, _, _, _, _, _, _, _, _, rfl⟩
  · rintro δ' S' ⟨c1, c2, c3, c4, c5, c6, c7, c8, c9, c10, c11, c12, c13, rfl⟩
    exact ws_ret (we_bl (kk _))
end
end Hk
namespace Hk
open PySem PySem.Spec PyProof.Rows L2 Ov
theorem all_mk {l : PySem.W.OpenLaw} {w : World} {K : PySem.W.Frag} {h : Heap} {mg : Str → Option Value} {fa : Addr} (X : K.In h) (G : h.Ns mainGlobals mg) (hfa : mg "law" = some (.ref fa))
    {f_is_integer : Addr} {od_is_integer an_is_integer : Option Addr} {sl_is_integer : Array (Option Value)} {oc_is_integer kV_is_integer dc_is_integer pm_is_integer cd_is_integer ct_is_integer : Value}
    (a_is_integer : PySem.W.nsIn K mainGlobals "is_integer" = some (some (.ref f_is_integer)))
    (l_is_integer : K.lookup f_is_integer = some ⟨oc_is_integer, od_is_integer, .func (PySem.W.fnOf "is_integer" "is_integer" (defArgs s_is_integer) (defBody s_is_integer) (defScope s_is_integer) .none kV_is_integer dc_is_integer pm_is_integer an_is_integer cd_is_integer ct_is_integer), sl_is_integer⟩)
    (c_is_integer : PySem.W.codeIn K cd_is_integer "is_integer" = true)
    (k_is_integer : PySem.W.keepIn K (.ref f_is_integer) = true)
    {f_is_name : Addr} {od_is_name an_is_name : Option Addr} {sl_is_name : Array (Option Value)} {oc_is_name kV_is_name dc_is_name pm_is_name cd_is_name ct_is_name : Value}
    (a_is_name : PySem.W.nsIn K mainGlobals "is_name" = some (some (.ref f_is_name)))
    (l_is_name : K.lookup f_is_name = some ⟨oc_is_name, od_is_name, .func (PySem.W.fnOf "is_name" "is_name" (defArgs s_is_name) (defBody s_is_name) (defScope s_is_name) .none kV_is_name dc_is_name pm_is_name an_is_name cd_is_name ct_is_name), sl_is_name⟩)
    (c_is_name : PySem.W.codeIn K cd_is_name "is_name" = true)
    (k_is_name : PySem.W.keepIn K (.ref f_is_name) = true)
    {f_has_sort : Addr} {od_has_sort an_has_sort : Option Addr} {sl_has_sort : Array (Option Value)} {oc_has_sort kV_has_sort dc_has_sort pm_has_sort cd_has_sort ct_has_sort : Value}
    (a_has_sort : PySem.W.nsIn K mainGlobals "has_sort" = some (some (.ref f_has_sort)))
    (l_has_sort : K.lookup f_has_sort = some ⟨oc_has_sort, od_has_sort, .func (PySem.W.fnOf "has_sort" "has_sort" (defArgs s_has_sort) (defBody s_has_sort) (defScope s_has_sort) .none kV_has_sort dc_has_sort pm_has_sort an_has_sort cd_has_sort ct_has_sort), sl_has_sort⟩)
    (c_has_sort : PySem.W.codeIn K cd_has_sort "has_sort" = true)
    (k_has_sort : PySem.W.keepIn K (.ref f_has_sort) = true)
    {f_triple : Addr} {od_triple an_triple : Option Addr} {sl_triple : Array (Option Value)} {oc_triple kV_triple dc_triple pm_triple cd_triple ct_triple : Value}
    (a_triple : PySem.W.nsIn K mainGlobals "_triple" = some (some (.ref f_triple)))
    (l_triple : K.lookup f_triple = some ⟨oc_triple, od_triple, .func (PySem.W.fnOf "_triple" "_triple" (defArgs s_triple) (defBody s_triple) (defScope s_triple) .none kV_triple dc_triple pm_triple an_triple cd_triple ct_triple), sl_triple⟩)
    (c_triple : PySem.W.codeIn K cd_triple "_triple" = true)
    (k_triple : PySem.W.keepIn K (.ref f_triple) = true)
    {f_check_hook : Addr} {od_check_hook an_check_hook : Option Addr} {sl_check_hook : Array (Option Value)} {oc_check_hook kV_check_hook dc_check_hook pm_check_hook cd_check_hook ct_check_hook : Value}
    (a_check_hook : PySem.W.nsIn K mainGlobals "_check_hook" = some (some (.ref f_check_hook)))
    (l_check_hook : K.lookup f_check_hook = some ⟨oc_check_hook, od_check_hook, .func (PySem.W.fnOf "_check_hook" "_check_hook" (defArgs s_check_hook) (defBody s_check_hook) (defScope s_check_hook) .none kV_check_hook dc_check_hook pm_check_hook an_check_hook cd_check_hook ct_check_hook), sl_check_hook⟩)
    (c_check_hook : PySem.W.codeIn K cd_check_hook "_check_hook" = true)
    (k_check_hook : PySem.W.keepIn K (.ref f_check_hook) = true)
    {f_fault_of_param : Addr} {od_fault_of_param an_fault_of_param : Option Addr} {sl_fault_of_param : Array (Option Value)} {oc_fault_of_param kV_fault_of_param dc_fault_of_param pm_fault_of_param cd_fault_of_param ct_fault_of_param : Value}
    (a_fault_of_param : PySem.W.nsIn K mainGlobals "_fault_of_param" = some (some (.ref f_fault_of_param)))
    (l_fault_of_param : K.lookup f_fault_of_param = some ⟨oc_fault_of_param, od_fault_of_param, .func (PySem.W.fnOf "_fault_of_param" "_fault_of_param" (defArgs s_fault_of_param) (defBody s_fault_of_param) (defScope s_fault_of_param) .none kV_fault_of_param dc_fault_of_param pm_fault_of_param an_fault_of_param cd_fault_of_param ct_fault_of_param), sl_fault_of_param⟩)
    (c_fault_of_param : PySem.W.codeIn K cd_fault_of_param "_fault_of_param" = true)
    (k_fault_of_param : PySem.W.keepIn K (.ref f_fault_of_param) = true)
    {f_given : Addr} {od_given an_given : Option Addr} {sl_given : Array (Option Value)} {oc_given kV_given dc_given pm_given cd_given ct_given : Value}
    (a_given : PySem.W.nsIn K mainGlobals "_given" = some (some (.ref f_given)))
    (l_given : K.lookup f_given = some ⟨oc_given, od_given, .func (PySem.W.fnOf "_given" "_given" (defArgs s_given) (defBody s_given) (defScope s_given) .none kV_given dc_given pm_given an_given cd_given ct_given), sl_given⟩)
    (c_given : PySem.W.codeIn K cd_given "_given" = true)
    (k_given : PySem.W.keepIn K (.ref f_given) = true)
    {f_box : Addr} {od_box an_box : Option Addr} {sl_box : Array (Option Value)} {oc_box kV_box dc_box pm_box cd_box ct_box : Value}
    (a_box : PySem.W.nsIn K mainGlobals "_law_box" = some (some (.ref f_box)))
    (l_box : K.lookup f_box = some ⟨oc_box, od_box, .func (PySem.W.fnOf "_law_box" "_law_box" (defArgs s_box) (defBody s_box) (defScope s_box) .none kV_box dc_box pm_box an_box cd_box ct_box), sl_box⟩)
    (c_box : PySem.W.codeIn K cd_box "_law_box" = true)
    (k_box : PySem.W.keepIn K (.ref f_box) = true)
    {f_take : Addr} {od_take an_take : Option Addr} {sl_take : Array (Option Value)} {oc_take kV_take dc_take pm_take cd_take ct_take : Value}
    (a_take : PySem.W.nsIn K mainGlobals "_law_take" = some (some (.ref f_take)))
    (l_take : K.lookup f_take = some ⟨oc_take, od_take, .func (PySem.W.fnOf "_law_take" "_law_take" (defArgs s_take) (defBody s_take) (defScope s_take) .none kV_take dc_take pm_take an_take cd_take ct_take), sl_take⟩)
    (c_take : PySem.W.codeIn K cd_take "_law_take" = true)
    (k_take : PySem.W.keepIn K (.ref f_take) = true)
    {f_pick : Addr} {od_pick an_pick : Option Addr} {sl_pick : Array (Option Value)} {oc_pick kV_pick dc_pick pm_pick cd_pick ct_pick : Value}
    (a_pick : PySem.W.nsIn K mainGlobals "_law_pick" = some (some (.ref f_pick)))
    (l_pick : K.lookup f_pick = some ⟨oc_pick, od_pick, .func (PySem.W.fnOf "_law_pick" "_law_pick" (defArgs s_pick) (defBody s_pick) (defScope s_pick) .none kV_pick dc_pick pm_pick an_pick cd_pick ct_pick), sl_pick⟩)
    (c_pick : PySem.W.codeIn K cd_pick "_law_pick" = true)
    (k_pick : PySem.W.keepIn K (.ref f_pick) = true)
    {f_mixed : Addr} {od_mixed an_mixed : Option Addr} {sl_mixed : Array (Option Value)} {oc_mixed kV_mixed dc_mixed pm_mixed cd_mixed ct_mixed : Value}
    (a_mixed : PySem.W.nsIn K mainGlobals "_law_mixed" = some (some (.ref f_mixed)))
    (l_mixed : K.lookup f_mixed = some ⟨oc_mixed, od_mixed, .func (PySem.W.fnOf "_law_mixed" "_law_mixed" (defArgs s_mixed) (defBody s_mixed) (defScope s_mixed) .none kV_mixed dc_mixed pm_mixed an_mixed cd_mixed ct_mixed), sl_mixed⟩)
    (c_mixed : PySem.W.codeIn K cd_mixed "_law_mixed" = true)
    (k_mixed : PySem.W.keepIn K (.ref f_mixed) = true)
    {f_names : Addr} {od_names an_names : Option Addr} {sl_names : Array (Option Value)} {oc_names kV_names dc_names pm_names cd_names ct_names : Value}
    (a_names : PySem.W.nsIn K mainGlobals "_law_names" = some (some (.ref f_names)))
    (l_names : K.lookup f_names = some ⟨oc_names, od_names, .func (PySem.W.fnOf "_law_names" "_law_names" (defArgs s_names) (defBody s_names) (defScope s_names) .none kV_names dc_names pm_names an_names cd_names ct_names), sl_names⟩)
    (c_names : PySem.W.codeIn K cd_names "_law_names" = true)
    (k_names : PySem.W.keepIn K (.ref f_names) = true)
    {f_hook : Addr} {od_hook an_hook : Option Addr} {sl_hook : Array (Option Value)} {oc_hook kV_hook dc_hook pm_hook cd_hook ct_hook : Value}
    (a_hook : PySem.W.nsIn K mainGlobals "_law_hook" = some (some (.ref f_hook)))
    (l_hook : K.lookup f_hook = some ⟨oc_hook, od_hook, .func (PySem.W.fnOf "_law_hook" "_law_hook" (defArgs s_hook) (defBody s_hook) (defScope s_hook) .none kV_hook dc_hook pm_hook an_hook cd_hook ct_hook), sl_hook⟩)
    (c_hook : PySem.W.codeIn K cd_hook "_law_hook" = true)
    (k_hook : PySem.W.keepIn K (.ref f_hook) = true)
    {f_value : Addr} {od_value an_value : Option Addr} {sl_value : Array (Option Value)} {oc_value kV_value dc_value pm_value cd_value ct_value : Value}
    (a_value : PySem.W.nsIn K mainGlobals "_law_value" = some (some (.ref f_value)))
    (l_value : K.lookup f_value = some ⟨oc_value, od_value, .func (PySem.W.fnOf "_law_value" "_law_value" (defArgs s_value) (defBody s_value) (defScope s_value) .none kV_value dc_value pm_value an_value cd_value ct_value), sl_value⟩)
    (c_value : PySem.W.codeIn K cd_value "_law_value" = true)
    (k_value : PySem.W.keepIn K (.ref f_value) = true)
    {f_hook_of : Addr} {od_hook_of an_hook_of : Option Addr} {sl_hook_of : Array (Option Value)} {oc_hook_of kV_hook_of dc_hook_of pm_hook_of cd_hook_of ct_hook_of : Value}
    (a_hook_of : PySem.W.nsIn K mainGlobals "_law_hook_of" = some (some (.ref f_hook_of)))
    (l_hook_of : K.lookup f_hook_of = some ⟨oc_hook_of, od_hook_of, .func (PySem.W.fnOf "_law_hook_of" "_law_hook_of" (defArgs s_hook_of) (defBody s_hook_of) (defScope s_hook_of) .none kV_hook_of dc_hook_of pm_hook_of an_hook_of cd_hook_of ct_hook_of), sl_hook_of⟩)
    (c_hook_of : PySem.W.codeIn K cd_hook_of "_law_hook_of" = true)
    (k_hook_of : PySem.W.keepIn K (.ref f_hook_of) = true)
    {f_call : Addr} {od_call an_call : Option Addr} {sl_call : Array (Option Value)} {oc_call kV_call dc_call pm_call cd_call ct_call : Value}
    (a_call : PySem.W.nsIn K mainGlobals "_law_call" = some (some (.ref f_call)))
    (l_call : K.lookup f_call = some ⟨oc_call, od_call, .func (PySem.W.fnOf "_law_call" "_law_call" (defArgs s_call) (defBody s_call) (defScope s_call) .none kV_call dc_call pm_call an_call cd_call ct_call), sl_call⟩)
    (c_call : PySem.W.codeIn K cd_call "_law_call" = true)
    (k_call : PySem.W.keepIn K (.ref f_call) = true)
    {f_bound : Addr} {od_bound an_bound : Option Addr} {sl_bound : Array (Option Value)} {oc_bound kV_bound dc_bound pm_bound cd_bound ct_bound : Value}
    (a_bound : PySem.W.nsIn K mainGlobals "_law_bound" = some (some (.ref f_bound)))
    (l_bound : K.lookup f_bound = some ⟨oc_bound, od_bound, .func (PySem.W.fnOf "_law_bound" "_law_bound" (defArgs s_bound) (defBody s_bound) (defScope s_bound) .none kV_bound dc_bound pm_bound an_bound cd_bound ct_bound), sl_bound⟩)
    (c_bound : PySem.W.codeIn K cd_bound "_law_bound" = true)
    (k_bound : PySem.W.keepIn K (.ref f_bound) = true)
    {f_law : Addr} {od_law an_law : Option Addr} {sl_law : Array (Option Value)} {oc_law kV_law dc_law pm_law cd_law ct_law : Value}
    (a_law : PySem.W.nsIn K mainGlobals "law" = some (some (.ref f_law)))
    (l_law : K.lookup f_law = some ⟨oc_law, od_law, .func (PySem.W.fnOf "law" "law" (defArgs s_law) (defBody s_law) (defScope s_law) .none kV_law dc_law pm_law an_law cd_law ct_law), sl_law⟩)
    (c_law : PySem.W.codeIn K cd_law "law" = true)
    (k_law : PySem.W.keepIn K (.ref f_law) = true)
    {C_Hook : Addr}
    (a_Hook : PySem.W.nsIn K mainGlobals "Hook" = some (some (.ref C_Hook)))
    (pg_Hook : PySem.W.plainGet K C_Hook Str.empty = true)
    (hd_Hook : PySem.W.hasDictIn K C_Hook = true)
    (po_Hook : PySem.W.plainOver K C_Hook = true)
    (sa_Hook : PySem.W.findIn K (.ref C_Hook) "__setattr__" = some (some (.builtin "object.__setattr__")))
    (mk_Hook : PySem.W.makesIn K C_Hook = true)
    (kc_Hook : PySem.W.keepIn K (.ref C_Hook) = true)
    (n_Hook_name : PySem.W.findIn K (.ref C_Hook) "name" = some none)
    (n_Hook_kind : PySem.W.findIn K (.ref C_Hook) "kind" = some none)
    (n_Hook_gives : PySem.W.findIn K (.ref C_Hook) "gives" = some none)
    (n_Hook_params : PySem.W.findIn K (.ref C_Hook) "params" = some none)
    (n_Hook_only : PySem.W.findIn K (.ref C_Hook) "only" = some none)
    (n_Hook_names : PySem.W.findIn K (.ref C_Hook) "names" = some none)
    {C_BadCall C_HookError xN_BadCall : Addr} {xnm_BadCall xq_BadCall : Str} {xbs_BadCall xsub_BadCall : List Value} {xsn_BadCall : List Str} {xab_BadCall : Bool} {xcol_BadCall : Option Bool} {xdd_BadCall : Option Addr} {x0_BadCall x1_BadCall x2_BadCall x3_BadCall x5_BadCall : Option Value}
    (a_BadCall : PySem.W.nsIn K mainGlobals "BadCall" = some (some (.ref C_BadCall)))
    (a_HookError : PySem.W.nsIn K mainGlobals "HookError" = some (some (.ref C_HookError)))
    (xL_BadCall : K.lookup C_BadCall = some (PySem.excClassObj xnm_BadCall xq_BadCall C_BadCall xN_BadCall xbs_BadCall [.ref C_HookError, .type "ValueError", .type "Exception", .type "BaseException", .type "object"] true xsn_BadCall xsub_BadCall xab_BadCall xcol_BadCall xdd_BadCall x0_BadCall x1_BadCall x2_BadCall x3_BadCall x5_BadCall "ValueError.__new__"))
    (xsa_BadCall : PySem.W.findIn K (.ref C_BadCall) "__setattr__" = some (some (.builtin "object.__setattr__")))
    (xga_BadCall : PySem.W.findIn K (.ref C_BadCall) "__getattribute__" = some (some (.builtin "BaseException.__getattribute__")))
    (xgg_BadCall : PySem.W.findIn K (.ref C_BadCall) "__getattr__" = some none)
    (xn_BadCall_word : PySem.W.findIn K (.ref C_BadCall) "word" = some none)
    (xn_BadCall_name : PySem.W.findIn K (.ref C_BadCall) "name" = some none)
    (xk_BadCall : PySem.W.keepIn K (.ref C_BadCall) = true)
    (xe_BadCall : PySem.W.subIn K (.ref C_BadCall) (.type "BaseException") = some true)
    (xt_BadCall : PySem.W.typeIn K (.ref C_BadCall) = some (.type "type"))
    (xh_BadCall : PySem.W.hasDictIn K C_BadCall = true)
    (xs_BadCall : PySem.W.subIn K (.ref C_BadCall) (.ref C_BadCall) = some true)
    (xc_BadCall : PySem.W.findIn K (.ref C_BadCall) "__class__" = some (some (.builtin "object.__class__")))
    (xm_BadCall : PySem.W.mroIn K C_BadCall (.type "object") = some true)
    (xkit_BadCall : PySem.W.kitOne K (.ref C_BadCall) (.ref C_HookError) = some true)
    (cg_get : PySem.W.specialIn K (.builtin "object.__class__") "__get__" = some (some (.builtin "getset_descriptor.__get__")))
    (cg_tak : PySem.W.takesIn K (.builtin "object.__class__") = some true)
    {f_Hook___init : Addr} {od_Hook___init an_Hook___init : Option Addr} {sl_Hook___init : Array (Option Value)} {oc_Hook___init  dc_Hook___init pm_Hook___init cd_Hook___init ct_Hook___init : Value}
    (a_Hook___init : PySem.W.findIn K (.ref C_Hook) "__init__" = some (some (.ref f_Hook___init)))
    (i_Hook___init : PySem.W.isFn K (.ref f_Hook___init) = true)
    {D_Hook___init : Addr}
    (l_Hook___init : K.lookup f_Hook___init = some ⟨oc_Hook___init, od_Hook___init, .func (PySem.W.fnOf "__init__" "Hook.__init__" (defArgs s_Hook___init) (defBody s_Hook___init) (defScope s_Hook___init) .none (.ref D_Hook___init) dc_Hook___init pm_Hook___init an_Hook___init cd_Hook___init ct_Hook___init), sl_Hook___init⟩)
    (c_Hook___init : PySem.W.codeIn K cd_Hook___init "Hook.__init__" = true)
    (k_Hook___init : PySem.W.keepIn K (.ref f_Hook___init) = true)
    {T_Hook___init_only : Addr}
    (d_Hook___init_only : PySem.W.nsIn K D_Hook___init "only" = some (some (.ref T_Hook___init_only)))
    {dd_Hook___init_only : Option Addr} {n_Hook___init_only : Nat} {sl_Hook___init_only : Array (Option Value)}
    (l_Hook___init_only : K.lookup T_Hook___init_only = some ⟨.type "tuple", dd_Hook___init_only, .seq #[] n_Hook___init_only, sl_Hook___init_only⟩)
    {t_Hook___init_gives : Tok}
    (d_Hook___init_gives : PySem.W.nsIn K D_Hook___init "gives" = some (some (.str "number" t_Hook___init_gives)))
    {f_Hook_bind : Addr} {od_Hook_bind an_Hook_bind : Option Addr} {sl_Hook_bind : Array (Option Value)} {oc_Hook_bind kV_Hook_bind dc_Hook_bind pm_Hook_bind cd_Hook_bind ct_Hook_bind : Value}
    (a_Hook_bind : PySem.W.findIn K (.ref C_Hook) "bind" = some (some (.ref f_Hook_bind)))
    (i_Hook_bind : PySem.W.isFn K (.ref f_Hook_bind) = true)
    (l_Hook_bind : K.lookup f_Hook_bind = some ⟨oc_Hook_bind, od_Hook_bind, .func (PySem.W.fnOf "bind" "Hook.bind" (defArgs s_Hook_bind) (defBody s_Hook_bind) (defScope s_Hook_bind) .none kV_Hook_bind dc_Hook_bind pm_Hook_bind an_Hook_bind cd_Hook_bind ct_Hook_bind), sl_Hook_bind⟩)
    (c_Hook_bind : PySem.W.codeIn K cd_Hook_bind "Hook.bind" = true)
    (k_Hook_bind : PySem.W.keepIn K (.ref f_Hook_bind) = true)
    {f_BadCall___init : Addr} {od_BadCall___init an_BadCall___init : Option Addr} {sl_BadCall___init : Array (Option Value)} {oc_BadCall___init kV_BadCall___init dc_BadCall___init pm_BadCall___init cd_BadCall___init ct_BadCall___init : Value}
    (a_BadCall___init : PySem.W.findIn K (.ref C_BadCall) "__init__" = some (some (.ref f_BadCall___init)))
    (i_BadCall___init : PySem.W.isFn K (.ref f_BadCall___init) = true)
    (l_BadCall___init : K.lookup f_BadCall___init = some ⟨oc_BadCall___init, od_BadCall___init, .func (PySem.W.fnOf "__init__" "BadCall.__init__" (defArgs s_BadCall___init) (defBody s_BadCall___init) (defScope s_BadCall___init) .none kV_BadCall___init dc_BadCall___init pm_BadCall___init an_BadCall___init cd_BadCall___init ct_BadCall___init), sl_BadCall___init⟩)
    (c_BadCall___init : PySem.W.codeIn K cd_BadCall___init "BadCall.__init__" = true)
    (k_BadCall___init : PySem.W.keepIn K (.ref f_BadCall___init) = true)
    (t_BadCall___init : PySem.W.typeIn K (.ref f_BadCall___init) = some (.type "function"))
    {p_SORTS : Addr}
    (a_SORTS : PySem.W.nsIn K mainGlobals "SORTS" = some (some (.ref p_SORTS)))
    {dd_SORTS : Option Addr} {n_SORTS : Nat} {sl_SORTS : Array (Option Value)} {t_SORTS_0 t_SORTS_1 : Tok}
    (l_SORTS : K.lookup p_SORTS = some ⟨.type "tuple", dd_SORTS, .seq #[Value.str (Str.ofString "number") t_SORTS_0, Value.str (Str.ofString "word") t_SORTS_1] n_SORTS, sl_SORTS⟩)
    {p_KEPT : Addr}
    (a_KEPT : PySem.W.nsIn K mainGlobals "KEPT" = some (some (.ref p_KEPT)))
    {dd_KEPT : Option Addr} {n_KEPT : Nat} {sl_KEPT : Array (Option Value)} {t_KEPT_0 t_KEPT_1 t_KEPT_2 t_KEPT_3 t_KEPT_4 t_KEPT_5 t_KEPT_6 t_KEPT_7 t_KEPT_8 t_KEPT_9 t_KEPT_10 t_KEPT_11 t_KEPT_12 t_KEPT_13 t_KEPT_14 t_KEPT_15 t_KEPT_16 : Tok}
    (l_KEPT : K.lookup p_KEPT = some ⟨.type "tuple", dd_KEPT, .seq #[Value.str (Str.ofString "if") t_KEPT_0, Value.str (Str.ofString "then") t_KEPT_1, Value.str (Str.ofString "else") t_KEPT_2, Value.str (Str.ofString "not") t_KEPT_3, Value.str (Str.ofString "both") t_KEPT_4, Value.str (Str.ofString "and") t_KEPT_5, Value.str (Str.ofString "either") t_KEPT_6, Value.str (Str.ofString "or") t_KEPT_7, Value.str (Str.ofString "is") t_KEPT_8, Value.str (Str.ofString "none") t_KEPT_9, Value.str (Str.ofString "fail") t_KEPT_10, Value.str (Str.ofString "ask") t_KEPT_11, Value.str (Str.ofString "with") t_KEPT_12, Value.str (Str.ofString "giving") t_KEPT_13, Value.str (Str.ofString "failing") t_KEPT_14, Value.str (Str.ofString "inner") t_KEPT_15, Value.str (Str.ofString "unanswered") t_KEPT_16] n_KEPT, sl_KEPT⟩)
    {t__LONGEST_NAME : Tok}
    (a__LONGEST_NAME : PySem.W.nsIn K mainGlobals "_LONGEST_NAME" = some (some (.int 8 t__LONGEST_NAME)))
    {p__KINDS : Addr}
    (a__KINDS : PySem.W.nsIn K mainGlobals "_KINDS" = some (some (.ref p__KINDS)))
    {dd__KINDS : Option Addr} {n__KINDS : Nat} {sl__KINDS : Array (Option Value)} {t__KINDS_0 t__KINDS_1 t__KINDS_2 : Tok}
    (l__KINDS : K.lookup p__KINDS = some ⟨.type "tuple", dd__KINDS, .seq #[Value.str (Str.ofString "first") t__KINDS_0, Value.str (Str.ofString "through") t__KINDS_1, Value.str (Str.ofString "each") t__KINDS_2] n__KINDS, sl__KINDS⟩)
    {t__MOST_PARAMS : Tok}
    (a__MOST_PARAMS : PySem.W.nsIn K mainGlobals "_MOST_PARAMS" = some (some (.int 3 t__MOST_PARAMS)))
    (z_abs : PySem.W.nsIn K mainGlobals "abs" = some none)
    (z_any : PySem.W.nsIn K mainGlobals "any" = some none)
    (z_bool : PySem.W.nsIn K mainGlobals "bool" = some none)
    (z_dict : PySem.W.nsIn K mainGlobals "dict" = some none)
    (z_enumerate : PySem.W.nsIn K mainGlobals "enumerate" = some none)
    (z_int : PySem.W.nsIn K mainGlobals "int" = some none)
    (z_isinstance : PySem.W.nsIn K mainGlobals "isinstance" = some none)
    (z_len : PySem.W.nsIn K mainGlobals "len" = some none)
    (z_list : PySem.W.nsIn K mainGlobals "list" = some none)
    (z_max : PySem.W.nsIn K mainGlobals "max" = some none)
    (z_range : PySem.W.nsIn K mainGlobals "range" = some none)
    (z_repr : PySem.W.nsIn K mainGlobals "repr" = some none)
    (z_sorted : PySem.W.nsIn K mainGlobals "sorted" = some none)
    (z_str : PySem.W.nsIn K mainGlobals "str" = some none)
    (z_tuple : PySem.W.nsIn K mainGlobals "tuple" = some none)
    : ∃ fd : FuncData, (∀ (s : Shared) (v : Value), BindsTo s fd ⟨[v], []⟩ [("_law_script", v)]) ∧ ∀ base : Heap, K.In base → base.Ns mainGlobals mg → FnG l.prog w K mg base 8 fa fd ["_law_script"] (SpA K 1 (spLaw 63)) := by
  have e := hfa.symm.trans (PySem.W.mg_of X G a_law)
  cases e
  have T : Txt K mg := ⟨PySem.W.mg_none_of X G z_abs, PySem.W.mg_none_of X G z_any, PySem.W.mg_none_of X G z_bool, PySem.W.mg_none_of X G z_dict, PySem.W.mg_none_of X G z_enumerate, PySem.W.mg_none_of X G z_int, PySem.W.mg_none_of X G z_isinstance, PySem.W.mg_none_of X G z_len, PySem.W.mg_none_of X G z_list, PySem.W.mg_none_of X G z_max, PySem.W.mg_none_of X G z_range, PySem.W.mg_none_of X G z_repr, PySem.W.mg_none_of X G z_sorted, PySem.W.mg_none_of X G z_str, PySem.W.mg_none_of X G z_tuple⟩
  have F_is_integer := fun_mk (st := s_is_integer) l_is_integer c_is_integer k_is_integer
  have D_is_integer : Df K mg "is_integer" ["thing"] s_is_integer _ _ := ⟨F_is_integer, PySem.W.mg_of X G a_is_integer, F_is_integer.binds (ps := ["thing"]) fun _ _ _ _ _ _ us hl => match us, hl with | [_], _ => rfl⟩
  have F_is_name := fun_mk (st := s_is_name) l_is_name c_is_name k_is_name
  have D_is_name : Df K mg "is_name" ["thing"] s_is_name _ _ := ⟨F_is_name, PySem.W.mg_of X G a_is_name, F_is_name.binds (ps := ["thing"]) fun _ _ _ _ _ _ us hl => match us, hl with | [_], _ => rfl⟩
  have F_has_sort := fun_mk (st := s_has_sort) l_has_sort c_has_sort k_has_sort
  have D_has_sort : Df K mg "has_sort" ["thing", "sort"] s_has_sort _ _ := ⟨F_has_sort, PySem.W.mg_of X G a_has_sort, F_has_sort.binds (ps := ["thing", "sort"]) fun _ _ _ _ _ _ us hl => match us, hl with | [_, _], _ => rfl⟩
  have F_triple := fun_mk (st := s_triple) l_triple c_triple k_triple
  have D_triple : Df K mg "_triple" ["param"] s_triple _ _ := ⟨F_triple, PySem.W.mg_of X G a_triple, F_triple.binds (ps := ["param"]) fun _ _ _ _ _ _ us hl => match us, hl with | [_], _ => rfl⟩
  have F_check_hook := fun_mk (st := s_check_hook) l_check_hook c_check_hook k_check_hook
  have D_check_hook : Df K mg "_check_hook" ["hook"] s_check_hook _ _ := ⟨F_check_hook, PySem.W.mg_of X G a_check_hook, F_check_hook.binds (ps := ["hook"]) fun _ _ _ _ _ _ us hl => match us, hl with | [_], _ => rfl⟩
  have F_fault_of_param := fun_mk (st := s_fault_of_param) l_fault_of_param c_fault_of_param k_fault_of_param
  have D_fault_of_param : Df K mg "_fault_of_param" ["hook", "at"] s_fault_of_param _ _ := ⟨F_fault_of_param, PySem.W.mg_of X G a_fault_of_param, F_fault_of_param.binds (ps := ["hook", "at"]) fun _ _ _ _ _ _ us hl => match us, hl with | [_, _], _ => rfl⟩
  have F_given := fun_mk (st := s_given) l_given c_given k_given
  have D_given : Df K mg "_given" ["hook", "args", "named"] s_given _ _ := ⟨F_given, PySem.W.mg_of X G a_given, F_given.binds (ps := ["hook", "args", "named"]) fun _ _ _ _ _ _ us hl => match us, hl with | [_, _, _], _ => rfl⟩
  have F_box := fun_mk (st := s_box) l_box c_box k_box
  have D_box : Df K mg "_law_box" ["_law_script", "_law_base"] s_box _ _ := ⟨F_box, PySem.W.mg_of X G a_box, F_box.binds (ps := ["_law_script", "_law_base"]) fun _ _ _ _ _ _ us hl => match us, hl with | [_, _], _ => rfl⟩
  have F_take := fun_mk (st := s_take) l_take c_take k_take
  have D_take : Df K mg "_law_take" ["_law_box_here", "_law_many"] s_take _ _ := ⟨F_take, PySem.W.mg_of X G a_take, F_take.binds (ps := ["_law_box_here", "_law_many"]) fun _ _ _ _ _ _ us hl => match us, hl with | [_, _], _ => rfl⟩
  have F_pick := fun_mk (st := s_pick) l_pick c_pick k_pick
  have D_pick : Df K mg "_law_pick" ["_law_box_here", "_law_items"] s_pick _ _ := ⟨F_pick, PySem.W.mg_of X G a_pick, F_pick.binds (ps := ["_law_box_here", "_law_items"]) fun _ _ _ _ _ _ us hl => match us, hl with | [_, _], _ => rfl⟩
  have F_mixed := fun_mk (st := s_mixed) l_mixed c_mixed k_mixed
  have D_mixed : Df K mg "_law_mixed" ["_law_box_here", "_law_items"] s_mixed _ _ := ⟨F_mixed, PySem.W.mg_of X G a_mixed, F_mixed.binds (ps := ["_law_box_here", "_law_items"]) fun _ _ _ _ _ _ us hl => match us, hl with | [_, _], _ => rfl⟩
  have F_names := fun_mk (st := s_names) l_names c_names k_names
  have D_names : Df K mg "_law_names" ["_law_box_here", "_law_many"] s_names _ _ := ⟨F_names, PySem.W.mg_of X G a_names, F_names.binds (ps := ["_law_box_here", "_law_many"]) fun _ _ _ _ _ _ us hl => match us, hl with | [_, _], _ => rfl⟩
  have F_hook := fun_mk (st := s_hook) l_hook c_hook k_hook
  have D_hook : Df K mg "_law_hook" ["_law_box_here", "_law_name", "_law_kind"] s_hook _ _ := ⟨F_hook, PySem.W.mg_of X G a_hook, F_hook.binds (ps := ["_law_box_here", "_law_name", "_law_kind"]) fun _ _ _ _ _ _ us hl => match us, hl with | [_, _, _], _ => rfl⟩
  have F_value := fun_mk (st := s_value) l_value c_value k_value
  have D_value : Df K mg "_law_value" ["_law_box_here", "_law_sort"] s_value _ _ := ⟨F_value, PySem.W.mg_of X G a_value, F_value.binds (ps := ["_law_box_here", "_law_sort"]) fun _ _ _ _ _ _ us hl => match us, hl with | [_, _], _ => rfl⟩
  have F_hook_of := fun_mk (st := s_hook_of) l_hook_of c_hook_of k_hook_of
  have D_hook_of : Df K mg "_law_hook_of" ["_law_hook_here"] s_hook_of _ _ := ⟨F_hook_of, PySem.W.mg_of X G a_hook_of, F_hook_of.binds (ps := ["_law_hook_here"]) fun _ _ _ _ _ _ us hl => match us, hl with | [_], _ => rfl⟩
  have F_call := fun_mk (st := s_call) l_call c_call k_call
  have D_call : Df K mg "_law_call" ["_law_box_here", "_law_hook_here"] s_call _ _ := ⟨F_call, PySem.W.mg_of X G a_call, F_call.binds (ps := ["_law_box_here", "_law_hook_here"]) fun _ _ _ _ _ _ us hl => match us, hl with | [_, _], _ => rfl⟩
  have F_bound := fun_mk (st := s_bound) l_bound c_bound k_bound
  have D_bound : Df K mg "_law_bound" ["_law_box_here", "_law_hook_here", "_law_model", "_law_call_here", "_law_wide"] s_bound _ _ := ⟨F_bound, PySem.W.mg_of X G a_bound, F_bound.binds (ps := ["_law_box_here", "_law_hook_here", "_law_model", "_law_call_here", "_law_wide"]) fun _ _ _ _ _ _ us hl => match us, hl with | [_, _, _, _, _], _ => rfl⟩
  have F_law := fun_mk (st := s_law) l_law c_law k_law
  have D_law : Df K mg "law" ["_law_script"] s_law _ _ := ⟨F_law, PySem.W.mg_of X G a_law, F_law.binds (ps := ["_law_script"]) fun _ _ _ _ _ _ us hl => match us, hl with | [_], _ => rfl⟩
  have cl_Hook : Cls K C_Hook := ⟨pg_Hook, hd_Hook, po_Hook, sa_Hook⟩
  have g_Hook := PySem.W.mg_of X G a_Hook
  have g_BadCall := PySem.W.mg_of X G a_BadCall
  have g_HookError := PySem.W.mg_of X G a_HookError
  have O_BadCall : OexC K C_BadCall := ⟨⟨_, _, _, _, _, _, _, _, _, _, _, _, _, _, _, xL_BadCall, by show PySem.HandSPX.refsVE [.type "ValueError", .type "Exception", .type "BaseException", .type "object"] = true; decide +kernel⟩, xsa_BadCall, xe_BadCall, xt_BadCall, xk_BadCall⟩
  have XF_BadCall : XfC K C_BadCall := ⟨xga_BadCall, xgg_BadCall, xe_BadCall, xh_BadCall⟩
  have xx_BadCall : PySem.W.exmOne K (.ref C_BadCall) (.ref C_BadCall) = some true := PySem.W.exm_ref xe_BadCall xh_BadCall xt_BadCall xs_BadCall
  have F_Hook___init := fun_mk (st := s_Hook___init) l_Hook___init c_Hook___init k_Hook___init
  have F_Hook_bind := fun_mk (st := s_Hook_bind) l_Hook_bind c_Hook_bind k_Hook_bind
  have B_Hook_bind := F_Hook_bind.binds (ps := ["self", "args", "named"]) fun _ _ _ _ _ _ us hl => match us, hl with | [_, _, _], _ => rfl
  have F_BadCall___init := fun_mk (st := s_BadCall___init) l_BadCall___init c_BadCall___init k_BadCall___init
  have B_BadCall___init := F_BadCall___init.binds (ps := ["self", "word", "name"]) fun _ _ _ _ _ _ us hl => match us, hl with | [_, _, _], _ => rfl
  have g_SORTS := PySem.W.mg_of X G a_SORTS
  have k_SORTS : TupK K p_SORTS (["number", "word"].map Str.ofString) := ⟨_, _, _, l_SORTS, rfl, rfl, (by show 2 ≤ sizeLine; decide), (.cons ⟨_, rfl⟩ (.cons ⟨_, rfl⟩ .nil))⟩
  have g_KEPT := PySem.W.mg_of X G a_KEPT
  have k_KEPT : TupK K p_KEPT (["if", "then", "else", "not", "both", "and", "either", "or", "is", "none", "fail", "ask", "with", "giving", "failing", "inner", "unanswered"].map Str.ofString) := ⟨_, _, _, l_KEPT, rfl, rfl, (by show 17 ≤ sizeLine; decide), (.cons ⟨_, rfl⟩ (.cons ⟨_, rfl⟩ (.cons ⟨_, rfl⟩ (.cons ⟨_, rfl⟩ (.cons ⟨_, rfl⟩ (.cons ⟨_, rfl⟩ (.cons ⟨_, rfl⟩ (.cons ⟨_, rfl⟩ (.cons ⟨_, rfl⟩ (.cons ⟨_, rfl⟩ (.cons ⟨_, rfl⟩ (.cons ⟨_, rfl⟩ (.cons ⟨_, rfl⟩ (.cons ⟨_, rfl⟩ (.cons ⟨_, rfl⟩ (.cons ⟨_, rfl⟩ (.cons ⟨_, rfl⟩ .nil)))))))))))))))))⟩
  have g__LONGEST_NAME := PySem.W.mg_of X G a__LONGEST_NAME
  have r__LONGEST_NAME : RelV (.int 8) (.int 8 t__LONGEST_NAME) := ⟨_, rfl⟩
  have g__KINDS := PySem.W.mg_of X G a__KINDS
  have k__KINDS : TupK K p__KINDS (["first", "through", "each"].map Str.ofString) := ⟨_, _, _, l__KINDS, rfl, rfl, (by show 3 ≤ sizeLine; decide), (.cons ⟨_, rfl⟩ (.cons ⟨_, rfl⟩ (.cons ⟨_, rfl⟩ .nil)))⟩
  have g__MOST_PARAMS := PySem.W.mg_of X G a__MOST_PARAMS
  have r__MOST_PARAMS : RelV (.int 3) (.int 3 t__MOST_PARAMS) := ⟨_, rfl⟩
  have hC : HookC K C_Hook := ⟨cl_Hook, n_Hook_name, n_Hook_kind, n_Hook_gives, n_Hook_params, n_Hook_only, n_Hook_names⟩
  have m_given := PySem.W.mg_of X G a_given
  exact ⟨PySem.W.fnOf "law" "law" (defArgs s_law) (defBody s_law) (defScope s_law) .none kV_law dc_law pm_law an_law cd_law ct_law, fun s v => .of_eq rfl, fun base _ _ => by
    have c_take := ok_take (P := l.prog) (w := w) (base := base) T D_take
    have c_pick := ok_pick (P := l.prog) (w := w) (base := base) T D_pick c_take
    have c_mixed := ok_mixed (P := l.prog) (w := w) (base := base) T D_mixed c_take
    have c_box := ok_box (P := l.prog) (w := w) (base := base) T D_box
    have c_names := ok_names T D_names c_take c_mixed
    have c_value := ok_value T D_value c_take c_pick
    have c_hook := ok_hook T D_hook c_take c_pick c_names c_value
    have c_is_integer := ok_is_integer (P := l.prog) (w := w) (base := base) T D_is_integer
    have c_is_name := ok_is_name (P := l.prog) (w := w) (base := base) T g__LONGEST_NAME r__LONGEST_NAME D_is_name
    have c_has_sort := ok_has_sort T D_has_sort c_is_integer c_is_name
    have c_triple := ok_triple (P := l.prog) (w := w) (base := base) T D_triple
    have c_fault := ok_fault T hC g_KEPT k_KEPT g_SORTS k_SORTS D_fault_of_param c_is_name c_has_sort
    have c_check := ok_check T hC g__KINDS k__KINDS g_SORTS k_SORTS g__MOST_PARAMS r__MOST_PARAMS D_check_hook c_is_name c_fault
    have I_init := ok_init T hC F_Hook___init c_triple c_check
    have c_hook_of := ok_hook_of T D_hook_of ⟨mk_Hook, a_Hook___init, i_Hook___init, kc_Hook⟩ I_init g_Hook (hook_kbn F_Hook___init)
    have X_bc := ok_bcinit (P := l.prog) (w := w) (mg := mg) (base := base) O_BadCall xn_BadCall_word xn_BadCall_name F_BadCall___init
    have F_gv := ok_given T hC F_given O_BadCall a_BadCall___init t_BadCall___init X_bc B_BadCall___init g_BadCall
    have F_bd := ok_bind T hC F_Hook_bind F_gv m_given k_given (F_given.binds (ps := ["hook", "args", "named"]) fun _ _ _ _ _ _ us hl => match us, hl with | [_, _, _], _ => rfl) c_has_sort O_BadCall a_BadCall___init t_BadCall___init X_bc B_BadCall___init g_BadCall
    have c_call := ok_call T D_call c_take c_value
    have c_bound := ok_bound T hC D_bound c_take c_mixed ⟨a_Hook_bind, i_Hook_bind, k_Hook_bind⟩ F_bd B_Hook_bind
    exact ok_law T hC D_law c_box c_take c_pick c_hook c_hook_of c_call c_bound ⟨a_Hook_bind, i_Hook_bind, k_Hook_bind⟩ F_bd B_Hook_bind⟩
end Hk
open PySem PySem.W PyProof.Rows
set_option maxRecDepth 100000 in
set_option maxHeartbeats 0 in
theorem PySem.Challenge.cw_hookrow_k07_whole_calls_passed_in_any_wa_holds : PySem.Challenge.rw_hookrow_k07_whole_calls_passed_in_any_wa.Holds := by
  w_on; o_law; k_head; (case hw => w_witness2)
  k_fill
  refine Ov.walk_go (l := PySem.Challenge.rw_hookrow_k07_whole_calls_passed_in_any_wa) (k := 8) (n := 63) (x := "_law_script") rfl (by decide) rfl ⟨rfl, by decide, by decide⟩ (fun w h Y => PySem.W.kIn_of Y) ?F
  case F =>
    intro w mg fa h KX G hmg
    refine' Hk.all_mk KX G hmg ?a_is_integer ?l_is_integer ?c_is_integer ?k_is_integer ?a_is_name ?l_is_name ?c_is_name ?k_is_name ?a_has_sort ?l_has_sort ?c_has_sort ?k_has_sort ?a_triple ?l_triple ?c_triple ?k_triple ?a_check_hook ?l_check_hook ?c_check_hook ?k_check_hook ?a_fault_of_param ?l_fault_of_param ?c_fault_of_param ?k_fault_of_param ?a_given ?l_given ?c_given ?k_given ?a_box ?l_box ?c_box ?k_box ?a_take ?l_take ?c_take ?k_take ?a_pick ?l_pick ?c_pick ?k_pick ?a_mixed ?l_mixed ?c_mixed ?k_mixed ?a_names ?l_names ?c_names ?k_names ?a_hook ?l_hook ?c_hook ?k_hook ?a_value ?l_value ?c_value ?k_value ?a_hook_of ?l_hook_of ?c_hook_of ?k_hook_of ?a_call ?l_call ?c_call ?k_call ?a_bound ?l_bound ?c_bound ?k_bound ?a_law ?l_law ?c_law ?k_law ?a_Hook ?pg_Hook ?hd_Hook ?po_Hook ?sa_Hook ?mk_Hook ?kc_Hook ?n_Hook_name ?n_Hook_kind ?n_Hook_gives ?n_Hook_params ?n_Hook_only ?n_Hook_names ?a_BadCall ?a_HookError ?xL_BadCall ?xsa_BadCall ?xga_BadCall ?xgg_BadCall ?xn_BadCall_word ?xn_BadCall_name ?xk_BadCall ?xe_BadCall ?xt_BadCall ?xh_BadCall ?xs_BadCall ?xc_BadCall ?xm_BadCall ?xkit_BadCall ?cg_get ?cg_tak ?a_Hook___init ?i_Hook___init ?l_Hook___init ?c_Hook___init ?k_Hook___init ?d_Hook___init_only ?l_Hook___init_only ?d_Hook___init_gives ?a_Hook_bind ?i_Hook_bind ?l_Hook_bind ?c_Hook_bind ?k_Hook_bind ?a_BadCall___init ?i_BadCall___init ?l_BadCall___init ?c_BadCall___init ?k_BadCall___init ?t_BadCall___init ?a_SORTS ?l_SORTS ?a_KEPT ?l_KEPT ?a__LONGEST_NAME ?a__KINDS ?l__KINDS ?a__MOST_PARAMS ?z_abs ?z_any ?z_bool ?z_dict ?z_enumerate ?z_int ?z_isinstance ?z_len ?z_list ?z_max ?z_range ?z_repr ?z_sorted ?z_str ?z_tuple
    (case a_is_integer => k_is); (case l_is_integer => k_is); (case c_is_integer => k_is); (case k_is_integer => k_is)
    (case a_is_name => k_is); (case l_is_name => k_is); (case c_is_name => k_is); (case k_is_name => k_is)
    (case a_has_sort => k_is); (case l_has_sort => k_is); (case c_has_sort => k_is); (case k_has_sort => k_is)
    (case a_triple => k_is); (case l_triple => k_is); (case c_triple => k_is); (case k_triple => k_is)
    (case a_check_hook => k_is); (case l_check_hook => k_is); (case c_check_hook => k_is); (case k_check_hook => k_is)
    (case a_fault_of_param => k_is); (case l_fault_of_param => k_is); (case c_fault_of_param => k_is); (case k_fault_of_param => k_is)
    (case a_given => k_is); (case l_given => k_is); (case c_given => k_is); (case k_given => k_is)
    (case a_box => k_is); (case l_box => k_is); (case c_box => k_is); (case k_box => k_is)
    (case a_take => k_is); (case l_take => k_is); (case c_take => k_is); (case k_take => k_is)
    (case a_pick => k_is); (case l_pick => k_is); (case c_pick => k_is); (case k_pick => k_is)
    (case a_mixed => k_is); (case l_mixed => k_is); (case c_mixed => k_is); (case k_mixed => k_is)
    (case a_names => k_is); (case l_names => k_is); (case c_names => k_is); (case k_names => k_is)
    (case a_hook => k_is); (case l_hook => k_is); (case c_hook => k_is); (case k_hook => k_is)
    (case a_value => k_is); (case l_value => k_is); (case c_value => k_is); (case k_value => k_is)
    (case a_hook_of => k_is); (case l_hook_of => k_is); (case c_hook_of => k_is); (case k_hook_of => k_is)
    (case a_call => k_is); (case l_call => k_is); (case c_call => k_is); (case k_call => k_is)
    (case a_bound => k_is); (case l_bound => k_is); (case c_bound => k_is); (case k_bound => k_is)
    (case a_law => k_is); (case l_law => k_is); (case c_law => k_is); (case k_law => k_is)
    (case a_Hook => k_is); (case pg_Hook => k_is); (case hd_Hook => k_is); (case po_Hook => k_is)
    (case sa_Hook => k_is); (case mk_Hook => k_is); (case kc_Hook => k_is); (case n_Hook_name => k_is)
    (case n_Hook_kind => k_is); (case n_Hook_gives => k_is); (case n_Hook_params => k_is); (case n_Hook_only => k_is)
    (case n_Hook_names => k_is); (case a_BadCall => k_is); (case a_HookError => k_is); (case xL_BadCall => k_is)
    (case xsa_BadCall => k_is); (case xga_BadCall => k_is); (case xgg_BadCall => k_is); (case xn_BadCall_word => k_is)
    (case xn_BadCall_name => k_is); (case xk_BadCall => k_is); (case xe_BadCall => k_is); (case xt_BadCall => k_is)
    (case xh_BadCall => k_is); (case xs_BadCall => first | rfl | k_is); (case xc_BadCall => k_is); (case xm_BadCall => k_is)
    (case xkit_BadCall => kit_is); (case cg_get => k_is); (case cg_tak => k_is); (case a_Hook___init => k_is)
    (case i_Hook___init => k_is); (case l_Hook___init => k_is); (case c_Hook___init => k_is); (case k_Hook___init => k_is)
    (case d_Hook___init_only => k_is); (case l_Hook___init_only => k_is); (case d_Hook___init_gives => k_is); (case a_Hook_bind => k_is)
    (case i_Hook_bind => k_is); (case l_Hook_bind => k_is); (case c_Hook_bind => k_is); (case k_Hook_bind => k_is)
    (case a_BadCall___init => k_is); (case i_BadCall___init => k_is); (case l_BadCall___init => k_is); (case c_BadCall___init => k_is)
    (case k_BadCall___init => k_is); (case t_BadCall___init => k_is); (case a_SORTS => k_is); (case l_SORTS => k_is)
    (case a_KEPT => k_is); (case l_KEPT => k_is); (case a__LONGEST_NAME => k_is); (case a__KINDS => k_is)
    (case l__KINDS => k_is); (case a__MOST_PARAMS => k_is); (case z_abs => k_is); (case z_any => k_is)
    (case z_bool => k_is); (case z_dict => k_is); (case z_enumerate => k_is); (case z_int => k_is)
    (case z_isinstance => k_is); (case z_len => k_is); (case z_list => k_is); (case z_max => k_is)
    (case z_range => k_is); (case z_repr => k_is); (case z_sorted => k_is); (case z_str => k_is)
    (case z_tuple => k_is)
