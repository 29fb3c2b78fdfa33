import PyProof.Rows.All
import Wide.All
import OpenK.AllK
import Wide.FinOn
import HandS.ForMost
import HandS.ForExc
import HandS.Evl
import HandS.TupAny
import HandS.Lambda
import HandS.EndTab
import HandS.AnyAll
import HandS.Style
import HandS.StrMore
import HandS.IsInst
import HandS.FStr
import HandS.Defaults
import HandS.Wide
import HandS.Text
import Wide.Txt
import KE.IntTextLaws
import PyProof.WalksMore
import HandS.More
import HandS.TryMany
import HandS.Small
import HandS.Steps
import PyProof.StrLawsIn
import PySem.Challenge.RW_turingwright_k01_tapes_and_heads
set_option Elab.async false
set_option linter.all false
set_option maxRecDepth 100000
set_option maxHeartbeats 4000000
/-! The layer DL: what an expression, a statement makes of data, with no heap in sight. -/
namespace DL
open PySem L2 Evl

inductive Dt where
  | non | bl (b : Bool) | int (i : Int) | str (x : Str) | tup (xs : List Dt) | lst (xs : List Dt) | lsr (xs : List Dt)
  | dK (ks : List Key) (ds : List Dt) | dT (ks : List (List Key)) (ds : List Dt) | ins (C : Addr) (ns : List Str) (ds : List Dt) | fn (a : Addr) | lam (q : Str) (ps : Arguments) (b : Expr) (sc : Scope)

/-- tables of code objects: of lambdas (each with the name of its codes), of generator expressions -/
structure TbT where
  l : List (Addr × Str)
  g : List Addr
def TbS (T : TbT) (H : Hp) : Prop := LamX.Tabs T.l H ∧ ∀ P ∈ T.g, GxR.TabG H P
theorem TbS.ext {T : TbT} {H H' : Hp} (t : TbS T H) (e : ∀ b o, H b = some o → H' b = some o) : TbS T H' := ⟨t.1.ext e, fun P hP => by
  obtain ⟨ps, h1, h2⟩ := t.2 P hP
  exact ⟨ps, e _ _ h1, h2⟩⟩
/-- all but the tables of code objects stays, those named in T are kept in form -/
def Ey (T : TbT) (H H' : Hp) : Prop := LamX.ExtN H H' ∧ (TbS T H → TbS T H')
theorem Ey.of {T : TbT} {H H' : Hp} (e : Ex H H') : Ey T H H' := ⟨fun b o h _ => e b o h, fun t => t.ext e⟩
theorem Ey.refl (T : TbT) (H : Hp) : Ey T H H := Ey.of (Ex.refl H)
theorem Ey.trans {T : TbT} {H H1 H2 : Hp} (a : Ey T H H1) (b : Ey T H1 H2) : Ey T H H2 := ⟨a.1.trans b.1, fun t => b.2 (a.2 t)⟩
def noTbl (o : HO) : Prop := ∀ ps, o ≠ .tbl ps
/-- an object that is no table and no code object -/
def plainO (o : HO) : Prop := noTbl o ∧ ∀ c q, o ≠ LamX.CodeO c q
def hidTbl : Option HO → Option HO
  | some (.tbl _) => none
  | some (.frz _ (.dK k)) => some (.dK k)
  | some (.frz _ (.dT k)) => some (.dT k)
  | o => o
theorem hidTbl_some {x : Option HO} {o : HO} (h : hidTbl x = some o) : ∃ o', x = some o' ∧ noTbl o' := by
  cases x with
  | none => cases h
  | some u => exact ⟨u, rfl, fun ps z => by subst z; cases h⟩
theorem hidTbl_id {x : Option HO} {o : HO} (h : hidTbl x = some o) (h1 : ∀ k, o ≠ .dK k) (h2 : ∀ k, o ≠ .dT k) : x = some o := by
  unfold hidTbl at h
  split at h
  · cases h
  · cases h
    exact (h1 _ rfl).elim
  · cases h
    exact (h2 _ rfl).elim
  · exact h
theorem hidTbl_dK {x : Option HO} {k : List (Key × V)} (h : hidTbl x = some (.dK k)) : x = some (.dK k) ∨ ∃ od, x = some (.frz od (.dK k)) := by
  unfold hidTbl at h
  split at h
  · cases h
  · cases h
    exact .inr ⟨_, rfl⟩
  · cases h
  · exact .inl h
theorem hidTbl_dT {x : Option HO} {k : List (List Key × V)} (h : hidTbl x = some (.dT k)) : x = some (.dT k) ∨ ∃ od, x = some (.frz od (.dT k)) := by
  unfold hidTbl at h
  split at h
  · cases h
  · cases h
  · cases h
    exact .inr ⟨_, rfl⟩
  · exact .inl h
/-- the heap without what may change, and without the tables; a dict that is walked looks as it is -/
def Fz (M : List Addr) (H : Hp) : Hp := fun a => if a ∈ M then none else hidTbl (H a)
theorem Fz.nm {M : List Addr} {H : Hp} {a : Addr} {o : HO} (h : Fz M H a = some o) : a ∉ M := fun z => by
  unfold Fz at h
  rw [if_pos z] at h
  cases h
theorem Fz.hid {M : List Addr} {H : Hp} {a : Addr} {o : HO} (h : Fz M H a = some o) : hidTbl (H a) = some o := by
  have n := Fz.nm h
  unfold Fz at h
  rwa [if_neg n] at h
theorem Fz.src {M : List Addr} {H : Hp} {a : Addr} {o : HO} (h : Fz M H a = some o) : ∃ o', H a = some o' ∧ noTbl o' := hidTbl_some (Fz.hid h)
theorem Fz.id {M : List Addr} {H : Hp} {a : Addr} {o : HO} (h : Fz M H a = some o) (h1 : ∀ k, o ≠ .dK k) (h2 : ∀ k, o ≠ .dT k) : H a = some o := hidTbl_id (Fz.hid h) h1 h2
theorem Fz.lst {M : List Addr} {H : Hp} {a : Addr} {vs : List V} (h : Fz M H a = some (.lst vs)) : H a = some (.lst vs) := Fz.id h (fun _ z => by cases z) fun _ z => by cases z
theorem Fz.ins {M : List Addr} {H : Hp} {a C dx : Addr} {fs : List (Str × V)} (h : Fz M H a = some (.ins C dx fs)) : H a = some (.ins C dx fs) := Fz.id h (fun _ z => by cases z) fun _ z => by cases z
theorem Fz.rdK {M : List Addr} {H : Hp} {a : Addr} {k : List (Key × V)} (h : Fz M H a = some (.dK k)) : Rd H a (.dK k) := hidTbl_dK (Fz.hid h)
theorem Fz.rdT {M : List Addr} {H : Hp} {a : Addr} {k : List (List Key × V)} (h : Fz M H a = some (.dT k)) : Rd H a (.dT k) := hidTbl_dT (Fz.hid h)
theorem Fz.mkN {M : List Addr} {H : Hp} {a : Addr} {o : HO} (h : H a = some o) (n : a ∉ M) (t : hidTbl (some o) = some o) : Fz M H a = some o := by
  unfold Fz
  rw [if_neg n, h, t]
theorem Fz.step {M M' : List Addr} {H H' : Hp} {a : Addr} {o : HO} (h : Fz M H a = some o) (k : ∀ o', H a = some o' → noTbl o' → H' a = some o') (n : a ∉ M') : Fz M' H' a = some o := by
  obtain ⟨o', h1, h2⟩ := Fz.src h
  have h3 := Fz.hid h
  unfold Fz
  rw [if_neg n, k o' h1 h2, ← h1]
  exact h3

/-- the object is kept, a dict may be marked as walked -/
def kept (o : HO) (x : Option HO) : Prop := x = some o ∨ (∃ k od, o = .dK k ∧ x = some (.frz od (.dK k))) ∨ ∃ k od, o = .dT k ∧ x = some (.frz od (.dT k))
def EyX (T : TbT) (H H' : Hp) : Prop := (∀ b o, H b = some o → noTbl o → kept o (H' b)) ∧ (TbS T H → TbS T H')
theorem Ey.x {T : TbT} {H H' : Hp} (e : Ey T H H') : EyX T H H' := ⟨fun b o h n => .inl (e.1 b o h fun ps z => n ps z), e.2⟩
theorem kept.hid {o : HO} {x : Option HO} (h : kept o x) (n : noTbl o) : hidTbl x = hidTbl (some o) := by
  rcases h with rfl | ⟨k, od, rfl, rfl⟩ | ⟨k, od, rfl, rfl⟩ <;> rfl
theorem Fz.stepX {M M' : List Addr} {H H' : Hp} {a : Addr} {o : HO} (h : Fz M H a = some o) (k : ∀ o', H a = some o' → noTbl o' → kept o' (H' a)) (n : a ∉ M') : Fz M' H' a = some o := by
  obtain ⟨o', h1, h2⟩ := Fz.src h
  have h3 := Fz.hid h
  unfold Fz
  rw [if_neg n, (k o' h1 h2).hid h2, ← h1]
  exact h3
/-- the object at f is a lambda that captures nothing -/
def LamO (f : Addr) (q : Str) (ps : Arguments) (b : Expr) (sc : Scope) (co : Addr) : HO := .ext fun h => ∃ (m t : Value), h.get? f = some (PySem.W.kla_obj "<lambda>" q ps b sc [] m co t)
mutual
inductive Is (K : PySem.W.Frag) (F : Hp) : V → Dt → Prop
  | non : Is K F .non .non
  | bl {b} : Is K F (.bl b) (.bl b)
  | int {i} : Is K F (.int i) (.int i)
  | str {x} : Is K F (.str x) (.str x)
  | tup {a vs ds} : SqT K F a vs → IsL K F vs ds → Is K F (.ref a) (.tup ds)
  | lst {a vs ds} : F a = some (.lst vs) → IsL K F vs ds → Is K F (.ref a) (.lst ds)
  | lsr {a vs ds} : SqL K F a vs → IsL K F vs ds → Is K F (.ref a) (.lsr ds)
  | dK {a ks vs ds} : F a = some (.dK (ks.zip vs)) → ks.length = vs.length → IsL K F vs ds → Is K F (.ref a) (.dK ks ds)
  | dT {a ks vs ds} : F a = some (.dT (ks.zip vs)) → ks.length = vs.length → IsL K F vs ds → Is K F (.ref a) (.dT ks ds)
  | ins {a C dx ns vs ds} : F a = some (.ins C dx (ns.zip vs)) → ns.length = vs.length → IsL K F vs ds → Is K F (.ref a) (.ins C ns ds)
  | fn {a} : Is K F (.ref a) (.fn a)
  | lam {a co q ps b sc} : F a = some (LamO a q ps b sc co) → F co = some (LamX.CodeO co q) → Is K F (.ref a) (.lam q ps b sc)
inductive IsL (K : PySem.W.Frag) (F : Hp) : List V → List Dt → Prop
  | nil : IsL K F [] []
  | cons {v d vs ds} : Is K F v d → IsL K F vs ds → IsL K F (v :: vs) (d :: ds)
end

section
variable {K : PySem.W.Frag} {F F' : Hp}
mutual
theorem Is.mono (e : Ex F F') : ∀ {v : V} {d : Dt}, Is K F v d → Is K F' v d
  | _, _, .non => .non
  | _, _, .bl => .bl
  | _, _, .int => .int
  | _, _, .str => .str
  | _, _, .tup h t => .tup (ex_t e h) (IsL.mono e t)
  | _, _, .lst h t => .lst (e _ _ h) (IsL.mono e t)
  | _, _, .lsr h t => .lsr (ex_l e h) (IsL.mono e t)
  | _, _, .dK h l t => .dK (e _ _ h) l (IsL.mono e t)
  | _, _, .dT h l t => .dT (e _ _ h) l (IsL.mono e t)
  | _, _, .ins h l t => .ins (e _ _ h) l (IsL.mono e t)
  | _, _, .fn => .fn
  | _, _, .lam h1 h2 => .lam (e _ _ h1) (e _ _ h2)
theorem IsL.mono (e : Ex F F') : ∀ {vs : List V} {ds : List Dt}, IsL K F vs ds → IsL K F' vs ds
  | _, _, .nil => .nil
  | _, _, .cons h t => .cons (Is.mono e h) (IsL.mono e t)
end
theorem IsL.length : ∀ {vs : List V} {ds : List Dt}, IsL K F vs ds → vs.length = ds.length
  | _, _, .nil => rfl
  | _, _, .cons _ t => congrArg (· + 1) (IsL.length t)
theorem IsL.get : ∀ {vs : List V} {ds : List Dt} {i : Nat} {d : Dt}, IsL K F vs ds → ds[i]? = some d → ∃ v, vs[i]? = some v ∧ Is K F v d
  | _, _, _, _, .nil, e => by simp at e
  | _, _, 0, _, .cons h _, e => by simp at e; subst e; exact ⟨_, rfl, h⟩
  | _, _, i + 1, d, .cons _ t, e => by
    obtain ⟨v, h1, h2⟩ := IsL.get (i := i) (d := d) t (by simpa using e)
    exact ⟨v, by simpa using h1, h2⟩
theorem IsL.getV : ∀ {vs : List V} {ds : List Dt} {i : Nat} {v : V}, IsL K F vs ds → vs[i]? = some v → ∃ d, ds[i]? = some d ∧ Is K F v d
  | _, _, _, _, .nil, e => by simp at e
  | _, _, 0, _, .cons h _, e => by simp at e; subst e; exact ⟨_, rfl, h⟩
  | _, _, i + 1, d, .cons _ t, e => by
    obtain ⟨v, h1, h2⟩ := IsL.getV (i := i) (v := d) t (by simpa using e)
    exact ⟨v, by simpa using h1, h2⟩
theorem IsL.append : ∀ {vs ws : List V} {ds es : List Dt}, IsL K F vs ds → IsL K F ws es → IsL K F (vs ++ ws) (ds ++ es)
  | _, _, _, _, .nil, t => t
  | _, _, _, _, .cons h r, t => .cons h (IsL.append r t)
theorem IsL.take : ∀ {vs : List V} {ds : List Dt} (n : Nat), IsL K F vs ds → IsL K F (vs.take n) (ds.take n)
  | _, _, 0, _ => by simp; exact .nil
  | _, _, n + 1, .nil => by simp; exact .nil
  | _, _, n + 1, .cons h t => .cons h (IsL.take n t)
theorem IsL.drop : ∀ {vs : List V} {ds : List Dt} (n : Nat), IsL K F vs ds → IsL K F (vs.drop n) (ds.drop n)
  | _, _, 0, h => h
  | _, _, n + 1, .nil => by simp; exact .nil
  | _, _, n + 1, .cons _ t => IsL.drop n t
theorem IsL.reverse : ∀ {vs : List V} {ds : List Dt}, IsL K F vs ds → IsL K F vs.reverse ds.reverse
  | _, _, .nil => .nil
  | _, _, .cons h t => by
    rw [List.reverse_cons, List.reverse_cons]
    exact (IsL.reverse t).append (.cons h .nil)
theorem IsL.set : ∀ {vs : List V} {ds : List Dt} {v : V} {d : Dt} (i : Nat), IsL K F vs ds → Is K F v d → IsL K F (vs.set i v) (ds.set i d)
  | _, _, _, _, _, .nil, _ => by simp; exact .nil
  | _, _, _, _, 0, .cons _ t, h => .cons h t
  | _, _, _, _, i + 1, .cons q t, h => .cons q (IsL.set i t h)
theorem IsL.split : ∀ {vs ws : List V} {es : List Dt}, IsL K F (vs ++ ws) es → ∃ ds1 ds2, es = ds1 ++ ds2 ∧ IsL K F vs ds1 ∧ IsL K F ws ds2
  | [], _, es, h => ⟨[], es, rfl, .nil, h⟩
  | v :: vs, ws, es, h => by
    cases h with
    | cons h t =>
      obtain ⟨d1, d2, e, h1, h2⟩ := IsL.split t
      exact ⟨_ :: d1, d2, by rw [e]; rfl, .cons h h1, h2⟩
theorem IsL.ints : ∀ (ns : List Int), IsL K F (ns.map V.int) (ns.map Dt.int)
  | [] => .nil
  | _ :: r => .cons .int (IsL.ints r)
/-- data of ints -/
theorem IsL.of_ints : ∀ {ns : List Int} {vs : List V}, IsL K F vs (ns.map Dt.int) → vs = ns.map V.int
  | [], _, .nil => rfl
  | n :: r, _, .cons h t => by
    cases h
    rw [IsL.of_ints t] <;> rfl
end

/-- a slot: not assigned, data that stands, an object of our own that may change -/
inductive Sl where | un | im (d : Dt) | ow (d : Dt)
/-- the object at a, of our own -/
def Ob (K : PySem.W.Frag) (F H : Hp) (a : Addr) : Dt → Prop
  | .lst ds => ∃ vs, H a = some (.lst vs) ∧ IsL K F vs ds
  | .dK ks ds => ∃ vs, H a = some (.dK (ks.zip vs)) ∧ ks.length = vs.length ∧ IsL K F vs ds
  | .dT ks ds => ∃ vs, H a = some (.dT (ks.zip vs)) ∧ ks.length = vs.length ∧ IsL K F vs ds
  | .ins C ns ds => ∃ dx vs, H a = some (.ins C dx (ns.zip vs)) ∧ ns.length = vs.length ∧ IsL K F vs ds
  | _ => False
theorem Ob.mono {K : PySem.W.Frag} {F F' H H' : Hp} {a : Addr} {d : Dt} (e : Ex F F') (ha : ∀ o, noTbl o → H a = some o → H' a = some o) (h : Ob K F H a d) : Ob K F' H' a d := by
  cases d with
  | lst ds => obtain ⟨vs, h1, h2⟩ := h; exact ⟨vs, ha _ (fun ps z => by cases z) h1, h2.mono e⟩
  | dK ks ds => obtain ⟨vs, h1, l, h2⟩ := h; exact ⟨vs, ha _ (fun ps z => by cases z) h1, l, h2.mono e⟩
  | dT ks ds => obtain ⟨vs, h1, l, h2⟩ := h; exact ⟨vs, ha _ (fun ps z => by cases z) h1, l, h2.mono e⟩
  | ins C ns ds => obtain ⟨dx, vs, h1, l, h2⟩ := h; exact ⟨dx, vs, ha _ (fun ps z => by cases z) h1, l, h2.mono e⟩
  | _ => exact h.elim
theorem Ob.there {K : PySem.W.Frag} {F H : Hp} {a : Addr} {d : Dt} (h : Ob K F H a d) : ∃ o, H a = some o := by
  cases d with
  | lst ds => obtain ⟨vs, h1, h2⟩ := h; exact ⟨_, h1⟩
  | dK ks ds => obtain ⟨vs, h1, l, h2⟩ := h; exact ⟨_, h1⟩
  | dT ks ds => obtain ⟨vs, h1, l, h2⟩ := h; exact ⟨_, h1⟩
  | ins C ns ds => obtain ⟨dx, vs, h1, l, h2⟩ := h; exact ⟨_, h1⟩
  | _ => exact h.elim

/-- where a def was entered: the heap, what may change by others, our own by slots -/
structure Zn where
  H0 : Hp
  B : List Addr
  io : List (Nat × Addr)
  T : TbT

structure En (K : PySem.W.Frag) (zs : List Nat) (Z : Zn) (M : List Addr) (H : Hp) (σ : L2.St) (Γ : List Sl) (R : Hp → Prop) : Prop where
  len : σ.length = Γ.length
  im : ∀ (i : Nat) (d : Dt), Γ[i]? = some (.im d) → ∃ v, σ[i]? = some (some v) ∧ Is K (Fz M H) v d
  ow : ∀ (i : Nat) (d : Dt), Γ[i]? = some (.ow d) → ∃ a, σ[i]? = some (some (.ref a)) ∧ a ∈ M ∧ ((∃ j, (j, a) ∈ Z.io) ∨ ((∀ u, noTbl u → Z.H0 a ≠ some u) ∧ a ∉ Z.B)) ∧ Ob K (Fz M H) H a d
  dis : ∀ (i j : Nat) (a : Addr) (d e : Dt), i ≠ j → Γ[i]? = some (.ow d) → Γ[j]? = some (.ow e) → σ[i]? = some (some (.ref a)) → σ[j]? = some (some (.ref a)) → False
  tmp : R (Fz M H)
  rm : ∀ F F', Ex F F' → R F → R F'
  sub : ∀ a ∈ Z.B, a ∈ M
  trk : ∀ a ∈ M, ∃ o, H a = some o ∧ plainO o
  pres : ∀ a o, Z.H0 a = some o → (∀ j, (j, a) ∉ Z.io) → noTbl o → H a = some o
  tab : TbS Z.T H
  zs : Z.io.map (·.1) = zs
  iok : ∀ (i : Nat) (a : Addr), (i, a) ∈ Z.io → a ∈ Z.B ∧ σ[i]? = some (some (.ref a)) ∧ ∃ d : Dt, Γ[i]? = some (.ow d)

section
variable {K : PySem.W.Frag} {zs : List Nat} {Z : Zn} {M : List Addr} {H H' : Hp} {σ : L2.St} {Γ : List Sl} {R R' : Hp → Prop}
/-- other things in hand -/
theorem En.hold (E : En K zs Z M H σ Γ R) (m : ∀ F F', Ex F F' → R' F → R' F') (h : R' (Fz M H)) : En K zs Z M H σ Γ R' :=
  ⟨E.len, E.im, E.ow, E.dis, h, m, E.sub, E.trk, E.pres, E.tab, E.zs, E.iok⟩
/-- data in hand -/
theorem En.push (E : En K zs Z M H σ Γ R) {v : V} {d : Dt} (h : Is K (Fz M H) v d) : En K zs Z M H σ Γ (fun F => Is K F v d ∧ R F) :=
  E.hold (fun _ _ e q => ⟨q.1.mono e, E.rm _ _ e q.2⟩) ⟨h, E.tmp⟩
theorem En.pop {v : V} {d : Dt} (E : En K zs Z M H σ Γ (fun F => Is K F v d ∧ R F)) (m : ∀ F F', Ex F F' → R F → R F') : Is K (Fz M H) v d ∧ En K zs Z M H σ Γ R :=
  ⟨E.tmp.1, E.hold m E.tmp.2⟩
theorem ex_fz (e : Ex H H') : Ex (Fz M H) (Fz M H') := fun a o h => Fz.step h (fun u q _ => e a u q) (Fz.nm h)
theorem ey_fz {T : TbT} (e : Ey T H H') : Ex (Fz M H) (Fz M H') := fun a o h => Fz.step h (fun u q n => e.1 a u q n) (Fz.nm h)
/-- all that stood stands -/
theorem En.extY (E : En K zs Z M H σ Γ R) (e : Ey Z.T H H') : En K zs Z M H' σ Γ R where
  len := E.len
  im := fun i d h => let ⟨v, h1, h2⟩ := E.im i d h; ⟨v, h1, h2.mono (ey_fz e)⟩
  ow := fun i d h => let ⟨a, h1, h2, h3, h4⟩ := E.ow i d h; ⟨a, h1, h2, h3, h4.mono (ey_fz e) fun o n q => e.1 a o q n⟩
  dis := E.dis
  tmp := E.rm _ _ (ey_fz e) E.tmp
  rm := E.rm
  sub := E.sub
  trk := fun a ha => by
    obtain ⟨o, h, n⟩ := E.trk a ha
    exact ⟨o, e.1 a o h n.1, n⟩
  pres := fun a o h n t => e.1 a o (E.pres a o h n t) t
  tab := e.2 E.tab
  zs := E.zs
  iok := E.iok
theorem En.ext (E : En K zs Z M H σ Γ R) (e : Ex H H') : En K zs Z M H' σ Γ R := E.extY (Ey.of e)
/-- a new object -/
theorem En.new (E : En K zs Z M H σ Γ R) {p : Addr} {o : HO} (hp : H p = none) : En K zs Z M (upd H p o) σ Γ R := E.ext (Ex.new hp)
abbrev Trk (M : List Addr) (H : Hp) : Prop := ∀ a ∈ M, ∃ o, H a = some o ∧ plainO o
theorem Trk.ne {M : List Addr} {H : Hp} (t : Trk M H) {p : Addr} (hp : H p = none) : p ∉ M := fun z => by
  obtain ⟨o, h, _⟩ := t p z
  rw [hp] at h
  cases h
theorem En.fz (E : En K zs Z M H σ Γ R) {p : Addr} (hp : H p = none) (o : HO) (n : hidTbl (some o) = some o := by rfl) : Fz M (upd H p o) p = some o := Fz.mkN upd_same (Trk.ne E.trk hp) n
theorem sqT_fz {a : Addr} {vs : List V} (h : SqT K (Fz M H) a vs) : SqT K H a vs := by
  rcases h with (h | ⟨o, h⟩) | h
  · exact .inl (.inl (Fz.id h (fun _ z => by cases z) fun _ z => by cases z))
  · exact .inl (.inr ⟨o, Fz.id h (fun _ z => by cases z) fun _ z => by cases z⟩)
  · exact .inr h
theorem sqL_fz {a : Addr} {vs : List V} (h : SqL K (Fz M H) a vs) : SqL K H a vs := by
  rcases h with (h | ⟨o, h⟩) | h
  · exact .inl (.inl (Fz.id h (fun _ z => by cases z) fun _ z => by cases z))
  · exact .inl (.inr ⟨o, Fz.id h (fun _ z => by cases z) fun _ z => by cases z⟩)
  · exact .inr h
end

/-! ### the judgements -/
/-- what stands around: the written part, the slots of what was handed in to be changed, what is wished of an exception, which classes it may be of -/
structure Ct where
  K : PySem.W.Frag
  T : TbT
  zs : List Nat
  E : XK
  P : Addr → Prop
  /-- of the things that were there no dict is known -/
  top : Prop
def Zn.nd (Z : Zn) : Prop := ∀ a, (∀ k, Z.H0 a ≠ some (.dK k)) ∧ ∀ k, Z.H0 a ≠ some (.dT k)
structure Ct.Ok (c : Ct) (Z : Zn) : Prop where
  t : Z.T = c.T
  x : ∀ cls H', c.P cls → (∀ a o, Z.H0 a = some o → (∀ j, (j, a) ∉ Z.io) → noTbl o → kept o (H' a)) → TbS Z.T H' → c.E (.ref cls) none H'
  nd : c.top → Z.nd
/-- nothing is let out -/
abbrev Ct.no (c : Ct) : Ct := ⟨c.K, c.T, c.zs, E0, fun _ => False, c.top⟩
def Wp (c : Ct) (te : TE) (Γ : List Sl) (Φ : Dt → List Sl → Prop) : Prop :=
  ∀ Z M H σ R, c.Ok Z → En c.K c.zs Z M H σ Γ R → ∀ Q : VK, (∀ v d Γ' M' H', Φ d Γ' → En c.K c.zs Z M' H' σ Γ' R → Is c.K (Fz M' H') v d → Q v H') → te σ H Q
def Wt (c : Ct) (tt : TT) (Γ : List Sl) (Φ : Bool → List Sl → Prop) : Prop :=
  ∀ Z M H σ R, c.Ok Z → En c.K c.zs Z M H σ Γ R → ∀ Q : Bool → Hp → Prop, (∀ b Γ' M' H', Φ b Γ' → En c.K c.zs Z M' H' σ Γ' R → Q b H') → tt σ H Q
def Wa (c : Ct) (ta : TA) (Γ : List Sl) (Φ : List Dt → List Sl → Prop) : Prop :=
  ∀ Z M H σ R, c.Ok Z → En c.K c.zs Z M H σ Γ R → ∀ Q : List V → Hp → Prop, (∀ vs ds Γ' M' H', Φ ds Γ' → En c.K c.zs Z M' H' σ Γ' R → IsL c.K (Fz M' H') vs ds → Q vs H') → ta σ H Q
inductive Out where | nx (Γ : List Sl) | rt (d : Dt) (Γ : List Sl) | bk (Γ : List Sl) | ct (Γ : List Sl)
structure Goes (c : Ct) (Z : Zn) (R : Hp → Prop) (D : Ends) (Ψ : Out → Prop) : Prop where
  nx : ∀ Γ σ M H, Ψ (.nx Γ) → En c.K c.zs Z M H σ Γ R → D.nx σ H
  rt : ∀ d Γ v σ M H, Ψ (.rt d Γ) → En c.K c.zs Z M H σ Γ R → Is c.K (Fz M H) v d → D.rt v H
  bk : ∀ Γ σ M H, Ψ (.bk Γ) → En c.K c.zs Z M H σ Γ R → D.bk σ H
  ct : ∀ Γ σ M H, Ψ (.ct Γ) → En c.K c.zs Z M H σ Γ R → D.ct σ H
def Ws (c : Ct) (ts : TS) (Γ : List Sl) (Ψ : Out → Prop) : Prop :=
  ∀ Z M H σ R D, c.Ok Z → En c.K c.zs Z M H σ Γ R → Goes c Z R D Ψ → ts D σ H

section
variable {c : Ct} {Γ : List Sl} {Φ : Dt → List Sl → Prop} {ΦT : Bool → List Sl → Prop} {ΦA : List Dt → List Sl → Prop} {Ψ : Out → Prop} {ta tb tc te : TE} {t u : TT} {tr : TA}
theorem Wp.mono {Φ' : Dt → List Sl → Prop} (h : Wp c te Γ Φ) (m : ∀ d Γ', Φ d Γ' → Φ' d Γ') : Wp c te Γ Φ' := fun Z M H σ R O E Q q =>
  h Z M H σ R O E Q fun v d Γ' M' H' p E' => q v d Γ' M' H' (m d Γ' p) E'
theorem Wt.mono {Φ' : Bool → List Sl → Prop} (h : Wt c t Γ ΦT) (m : ∀ d Γ', ΦT d Γ' → Φ' d Γ') : Wt c t Γ Φ' := fun Z M H σ R O E Q q =>
  h Z M H σ R O E Q fun v d Γ' M' p E' => q v d Γ' M' (m v d p) E'
theorem Wa.mono {Φ' : List Dt → List Sl → Prop} (h : Wa c tr Γ ΦA) (m : ∀ d Γ', ΦA d Γ' → Φ' d Γ') : Wa c tr Γ Φ' := fun Z M H σ R O E Q q =>
  h Z M H σ R O E Q fun v d Γ' M' H' p E' => q v d Γ' M' H' (m d Γ' p) E'
theorem w_var {i : Nat} {d : Dt} (h : Γ[i]? = some (.im d)) (q : Φ d Γ) : Wp c (tVar i) Γ Φ := fun Z M H σ R O E Q k => by
  obtain ⟨v, h1, h2⟩ := E.im i d h
  exact ⟨v, h1, k v d Γ M H q E h2⟩
theorem w_int {i : Int} (q : Φ (.int i) Γ) : Wp c (tC (.int i)) Γ Φ := fun Z M H σ R O E Q k => k _ _ Γ M H q E .int
theorem w_bl {b : Bool} (q : Φ (.bl b) Γ) : Wp c (tC (.bl b)) Γ Φ := fun Z M H σ R O E Q k => k _ _ Γ M H q E .bl
theorem w_str {x : Str} (q : Φ (.str x) Γ) : Wp c (tC (.str x)) Γ Φ := fun Z M H σ R O E Q k => k _ _ Γ M H q E .str
theorem w_non (q : Φ .non Γ) : Wp c (tC .non) Γ Φ := fun Z M H σ R O E Q k => k _ _ Γ M H q E .non
/-- a constant that is known in every heap -/
theorem w_con {v : V} {d : Dt} (h : ∀ F, Is c.K F v d) (q : Φ d Γ) : Wp c (tC v) Γ Φ := fun Z M H σ R O E Q k => k _ _ Γ M H q E (h _)

/-- an operation on two values, told by data -/
def RD (K : PySem.W.Frag) (r : R2) (x y : Dt) (P : Dt → Prop) : Prop :=
  ∀ M H v w, Trk M H → Is K (Fz M H) v x → Is K (Fz M H) w y → ∀ Q : VK, (∀ z d H', P d → Ex H H' → Is K (Fz M H') z d → Q z H') → r v w H Q
theorem w_op {r : R2} (h : Wp c ta Γ fun x Γ1 => Wp c tb Γ1 fun y Γ2 => RD c.K r x y fun z => Φ z Γ2) : Wp c (tOp r ta tb) Γ Φ := fun Z M H σ R O E Q k =>
  h Z M H σ R O E _ fun v x Γ1 M1 H1 h1 E1 i1 => h1 Z M1 H1 σ _ O (E1.push i1) _ fun w y Γ2 M2 H2 h2 E2 iy => by
    obtain ⟨ix, E2'⟩ := E2.pop E.rm
    exact h2 M2 H2 v w E2.trk ix iy Q fun z d H' p e i => k z d Γ2 M2 H' p (E2'.ext e) i
def RU1 (K : PySem.W.Frag) (r : V → Hp → VK → Prop) (x : Dt) (P : Dt → Prop) : Prop :=
  ∀ M H v, Trk M H → Is K (Fz M H) v x → ∀ Q : VK, (∀ z d H', P d → Ex H H' → Is K (Fz M H') z d → Q z H') → r v H Q
theorem w_un {r : V → Hp → VK → Prop} (h : Wp c ta Γ fun x Γ1 => RU1 c.K r x fun z => Φ z Γ1) : Wp c (tUn r ta) Γ Φ := fun Z M H σ R O E Q k =>
  h Z M H σ R O E _ fun v x Γ1 M1 H1 h1 E1 ix => h1 M1 H1 v E1.trk ix Q fun z d H' p e i => k z d Γ1 M1 H' p (E1.ext e) i
theorem rd_I0 {K : PySem.W.Frag} {g : Int → Int → Int} {i j : Int} {P : Dt → Prop} (h : P (.int (g i j))) : RD K (rI0 fun i j => .int (g i j)) (.int i) (.int j) P := fun M H v w _ iv iw Q q => by
  cases iv; cases iw
  exact ⟨i, j, rfl, rfl, q _ _ H h (Ex.refl H) .int⟩
theorem rd_I0b {K : PySem.W.Frag} {g : Int → Int → Bool} {i j : Int} {P : Dt → Prop} (h : P (.bl (g i j))) : RD K (rI0 fun i j => .bl (g i j)) (.int i) (.int j) P := fun M H v w _ iv iw Q q => by
  cases iv; cases iw
  exact ⟨i, j, rfl, rfl, q _ _ H h (Ex.refl H) .bl⟩
theorem rd_I {K : PySem.W.Frag} {C : Int → Int → Prop} {g : Int → Int → Int} {i j : Int} {P : Dt → Prop} (hc : C i j) (h : P (.int (g i j))) : RD K (rI C fun i j => .int (g i j)) (.int i) (.int j) P := fun M H v w _ iv iw Q q => by
  cases iv; cases iw
  exact ⟨i, j, rfl, rfl, hc, q _ _ H h (Ex.refl H) .int⟩
/-- two readings of one expression -/
theorem w_l (h : Wp c ta Γ Φ) : Wp c (fun σ H Q => ta σ H Q ∨ tb σ H Q) Γ Φ := fun Z M H σ R O E Q k => .inl (h Z M H σ R O E Q k)
theorem w_r (h : Wp c tb Γ Φ) : Wp c (fun σ H Q => ta σ H Q ∨ tb σ H Q) Γ Φ := fun Z M H σ R O E Q k => .inr (h Z M H σ R O E Q k)

/-! ### tests -/
theorem t_B (h : Wp c te Γ fun d Γ1 => ∃ b, d = .bl b ∧ ΦT b Γ1) : Wt c (tB te) Γ ΦT := fun Z M H σ R O E Q k =>
  h Z M H σ R O E _ fun v d Γ1 M1 H1 ⟨b, e, p⟩ E1 i => by
    subst e
    cases i
    exact ⟨b, rfl, k b Γ1 M1 H1 p E1⟩
theorem t_test (h : Wp c te Γ fun d Γ1 => ∃ b, d = .bl b ∧ ΦT b Γ1) : Wt c (tTest te) Γ ΦT := t_B h
theorem t_not (h : Wt c t Γ fun b Γ1 => ΦT (!b) Γ1) : Wt c (tNot t) Γ ΦT := fun Z M H σ R O E Q k =>
  h Z M H σ R O E _ fun b Γ1 M1 H1 p E1 => k (!b) Γ1 M1 H1 p E1
theorem t_and (h : Wt c t Γ fun b Γ1 => if b = true then Wt c u Γ1 ΦT else ΦT false Γ1) : Wt c (tAnd t u) Γ ΦT := fun Z M H σ R O E Q k =>
  h Z M H σ R O E _ fun b Γ1 M1 H1 p E1 => by
    cases b with
    | true => exact p Z M1 H1 σ R O E1 Q k
    | false => exact k false Γ1 M1 H1 p E1
theorem t_or (h : Wt c t Γ fun b Γ1 => if b = true then ΦT true Γ1 else Wt c u Γ1 ΦT) : Wt c (tOr t u) Γ ΦT := fun Z M H σ R O E Q k =>
  h Z M H σ R O E _ fun b Γ1 M1 H1 p E1 => by
    cases b with
    | true => exact k true Γ1 M1 H1 p E1
    | false => exact p Z M1 H1 σ R O E1 Q k
theorem w_andV (h : Wp c ta Γ fun d Γ1 => ∃ b, d = .bl b ∧ if b = true then Wp c tb Γ1 Φ else Φ (.bl false) Γ1) : Wp c (tAndV ta tb) Γ Φ := fun Z M H σ R O E Q k =>
  h Z M H σ R O E _ fun v d Γ1 M1 H1 ⟨b, e, p⟩ E1 i => by
    subst e
    cases i
    refine ⟨b, rfl, ?_⟩
    cases b with
    | true => exact p Z M1 H1 σ R O E1 Q k
    | false => exact k _ _ Γ1 M1 H1 p E1 .bl
theorem w_orV (h : Wp c ta Γ fun d Γ1 => ∃ b, d = .bl b ∧ if b = true then Φ (.bl true) Γ1 else Wp c tb Γ1 Φ) : Wp c (tOrV ta tb) Γ Φ := fun Z M H σ R O E Q k =>
  h Z M H σ R O E _ fun v d Γ1 M1 H1 ⟨b, e, p⟩ E1 i => by
    subst e
    cases i
    refine ⟨b, rfl, ?_⟩
    cases b with
    | true => exact k _ _ Γ1 M1 H1 p E1 .bl
    | false => exact p Z M1 H1 σ R O E1 Q k
theorem w_notV (h : Wp c ta Γ fun d Γ1 => ∃ b, d = .bl b ∧ Φ (.bl (!b)) Γ1) : Wp c (tNotV ta) Γ Φ := fun Z M H σ R O E Q k =>
  h Z M H σ R O E _ fun v d Γ1 M1 H1 ⟨b, e, p⟩ E1 i => by
    subst e
    cases i
    exact ⟨b, rfl, k _ _ Γ1 M1 H1 p E1 .bl⟩
theorem w_if (h : Wt c t Γ fun b Γ1 => if b = true then Wp c ta Γ1 Φ else Wp c tb Γ1 Φ) : Wp c (tIf t ta tb) Γ Φ := fun Z M H σ R O E Q k =>
  h Z M H σ R O E _ fun b Γ1 M1 H1 p E1 => by
    cases b with
    | true => exact p Z M1 H1 σ R O E1 Q k
    | false => exact p Z M1 H1 σ R O E1 Q k
theorem w_chain {r r' : R2} (h : Wp c ta Γ fun x Γ1 => Wp c tb Γ1 fun y Γ2 => RD c.K r x y fun z => ∃ b, z = .bl b ∧ if b = true then Wp c tc Γ2 (fun z Γ3 => RD c.K r' y z fun o => Φ o Γ3) else Φ (.bl false) Γ2) : Wp c (tChain r r' ta tb tc) Γ Φ := by
  intro Z M H σ R O E Q k
  refine h Z M H σ R O E _ fun v x Γ1 M1 H1 h1 E1 i1 => ?_
  refine h1 Z M1 H1 σ _ O (E1.push i1) _ fun w y Γ2 M2 H2 h2 E2 iy => ?_
  obtain ⟨ix, E2'⟩ := E2.pop E.rm
  refine h2 M2 H2 v w E2.trk ix iy _ fun z d H' p e i => ?_
  obtain ⟨b, e1, p⟩ := p
  subst e1
  cases i
  refine ⟨b, rfl, ?_⟩
  cases b with
  | false => exact k _ _ Γ2 M2 H' p (E2'.ext e) .bl
  | true =>
    refine p Z M2 H' σ _ O ((E2'.ext e).push (iy.mono (ex_fz e))) _ fun w' d' Γ3 M3 H3 h3 E3 iz => ?_
    obtain ⟨iy', E3'⟩ := E3.pop E.rm
    exact h3 M3 H3 w w' E3.trk iy' iz Q fun z d H4 p e i => k z d Γ3 M3 H4 p (E3'.ext e) i

/-! ### arguments, displays -/
theorem a_nil (q : ΦA [] Γ) : Wa c tNil Γ ΦA := fun Z M H σ R O E Q k => k [] [] Γ M H q E .nil
theorem a_cons (h : Wp c te Γ fun d Γ1 => Wa c tr Γ1 fun ds Γ2 => ΦA (d :: ds) Γ2) : Wa c (tCons te tr) Γ ΦA := fun Z M H σ R O E Q k =>
  h Z M H σ R O E _ fun v d Γ1 M1 H1 h1 E1 i1 => h1 Z M1 H1 σ _ O (E1.push i1) _ fun vs ds Γ2 M2 H2 h2 E2 i => by
    obtain ⟨iv, E2'⟩ := E2.pop E.rm
    exact k (v :: vs) (d :: ds) Γ2 M2 H2 h2 E2' (.cons iv i)
theorem w_tup {ta : TA} (h : Wa c ta Γ fun ds Γ1 => ds.length ≤ sizeLine ∧ Φ (.tup ds) Γ1) : Wp c (tTup ta) Γ Φ := fun Z M H σ R O E Q k =>
  h Z M H σ R O E _ fun vs ds Γ1 M1 H1 ⟨hl, h1⟩ E1 i => ⟨by rw [i.length]; exact hl, fun p hp =>
    k _ _ Γ1 M1 _ h1 (E1.new hp) (.tup (.inl (.inl (E1.fz hp _))) (i.mono (ex_fz (Ex.new hp))))⟩
theorem w_lst {ta : TA} (h : Wa c ta Γ fun ds Γ1 => ds.length ≤ sizeLine ∧ Φ (.lst ds) Γ1) : Wp c (tLst ta) Γ Φ := fun Z M H σ R O E Q k =>
  h Z M H σ R O E _ fun vs ds Γ1 M1 H1 ⟨hl, h1⟩ E1 i => ⟨by rw [i.length]; exact hl, fun p hp =>
    k _ _ Γ1 M1 _ h1 (E1.new hp) (.lst (E1.fz hp _) (i.mono (ex_fz (Ex.new hp))))⟩
/-- a field -/
theorem zip_lookup : ∀ {ns : List Str} {vs : List V} {ds : List Dt} {K : PySem.W.Frag} {F : Hp} {f : Str} {d : Dt}, ns.length = vs.length → IsL K F vs ds → (ns.zip ds).lookup f = some d → ∃ v, (ns.zip vs).lookup f = some v ∧ Is K F v d
  | [], _, _, _, _, _, _, _, _, h => by simp at h
  | n :: ns, v :: vs, _ :: ds, K, F, f, d, hl, .cons i t, h => by
    simp only [List.zip_cons_cons, List.lookup_cons] at h ⊢
    split
    · rename_i e
      rw [e] at h
      cases h
      exact ⟨_, rfl, i⟩
    · rename_i e
      rw [e] at h
      exact zip_lookup (by simpa using hl) t h
theorem w_fld {f : Str} (h : Wp c ta Γ fun x Γ1 => ∃ C ns ds d, x = .ins C ns ds ∧ Cls c.K C ∧ NoAttr c.K C f ∧ (ns.zip ds).lookup f = some d ∧ Φ d Γ1) : Wp c (tFld c.K ta f) Γ Φ := fun Z M H σ R O E Q k =>
  h Z M H σ R O E _ fun v x Γ1 M1 H1 ⟨C, ns, ds, d, e, hc, hn, hk, p⟩ E1 i => by
    subst e
    cases i with
    | ins h1 h2 h3 =>
      obtain ⟨v, hv, iv⟩ := zip_lookup h2 h3 hk
      exact ⟨_, C, _, _, v, rfl, Fz.ins h1, hc, hn, hv, k v d Γ1 M1 H1 p E1 iv⟩
/-- a field of an object of our own -/
theorem w_fldO {i : Nat} {f : Str} {C : Addr} {ns : List Str} {ds : List Dt} {d : Dt} (h : Γ[i]? = some (.ow (.ins C ns ds))) (hc : Cls c.K C) (hn : NoAttr c.K C f) (hk : (ns.zip ds).lookup f = some d) (q : Φ d Γ) : Wp c (tFld c.K (tVar i) f) Γ Φ := fun Z M H σ R O E Q k => by
  obtain ⟨a, h1, h2, h3, dx, vs, h4, h5, h6⟩ := E.ow i _ h
  obtain ⟨v, hv, iv⟩ := zip_lookup h5 h6 hk
  exact ⟨_, h1, a, C, dx, _, v, rfl, h4, hc, hn, hv, k v d Γ M H q E iv⟩

/-! ### statements -/
variable {ts us : TS}
theorem Goes.mono {Z : Zn} {R : Hp → Prop} {D : Ends} {Ψ' : Out → Prop} (G : Goes c Z R D Ψ') (m : ∀ o, Ψ o → Ψ' o) : Goes c Z R D Ψ :=
  ⟨fun Γ σ M H p => G.nx Γ σ M H (m _ p), fun d Γ v σ M H p => G.rt d Γ v σ M H (m _ p), fun Γ σ M H p => G.bk Γ σ M H (m _ p), fun Γ σ M H p => G.ct Γ σ M H (m _ p)⟩
theorem Ws.mono {Ψ' : Out → Prop} (h : Ws c ts Γ Ψ) (m : ∀ o, Ψ o → Ψ' o) : Ws c ts Γ Ψ' := fun Z M H σ R D O E G => h Z M H σ R D O E (G.mono m)
/-- the ends but the next -/
def onx (Ψ : Out → Prop) (N : List Sl → Prop) : Out → Prop
  | .nx Γ => N Γ
  | o => Ψ o
theorem s_seq (h : Ws c ts Γ (onx Ψ fun Γ1 => Ws c us Γ1 Ψ)) : Ws c (tSeq ts us) Γ Ψ := fun Z M H σ R D O E G =>
  h Z M H σ R { D with nx := us D } O E ⟨fun Γ1 σ1 M1 H1 p E1 => p Z M1 H1 σ1 R D O E1 G, fun d Γ v σ M H p => G.rt d Γ v σ M H p, fun Γ σ M H p => G.bk Γ σ M H p, fun Γ σ M H p => G.ct Γ σ M H p⟩
theorem s_next (q : Ψ (.nx Γ)) : Ws c tNext Γ Ψ := fun Z M H σ R D O E G => G.nx Γ σ M H q E
theorem s_ret (h : Wp c te Γ fun d Γ1 => Ψ (.rt d Γ1)) : Ws c (tRet te) Γ Ψ := fun Z M H σ R D O E G =>
  h Z M H σ R O E _ fun v d Γ1 M1 H1 p E1 i => G.rt d Γ1 v σ M1 H1 p E1 i
theorem s_retN (q : Ψ (.rt .non Γ)) : Ws c tRetN Γ Ψ := fun Z M H σ R D O E G => G.rt .non Γ .non σ M H q E .non
theorem s_drop (h : Wp c te Γ fun d Γ1 => Ψ (.nx Γ1)) : Ws c (tDrop te) Γ Ψ := fun Z M H σ R D O E G =>
  h Z M H σ R O E _ fun v d Γ1 M1 H1 p E1 _ => G.nx Γ1 σ M1 H1 p E1
theorem s_brk (q : Ψ (.bk Γ)) : Ws c tBreak Γ Ψ := fun Z M H σ R D O E G => G.bk Γ σ M H q E
theorem s_cont (q : Ψ (.ct Γ)) : Ws c tCont Γ Ψ := fun Z M H σ R D O E G => G.ct Γ σ M H q E
theorem s_if (h : Wt c t Γ fun b Γ1 => if b = true then Ws c ts Γ1 Ψ else Ws c us Γ1 Ψ) : Ws c (tIfS t ts us) Γ Ψ := fun Z M H σ R D O E G =>
  h Z M H σ R O E _ fun b Γ1 M1 H1 p E1 => by
    cases b with
    | true => exact p Z M1 H1 σ R D O E1 G
    | false => exact p Z M1 H1 σ R D O E1 G
/-- an exception of an own class is raised -/
theorem s_raise {C : Addr} (h : c.P C) : Ws c (fun _ _ H => c.E (.ref C) none H) Γ Ψ := fun Z M H σ R D O E G => O.x C H h (fun a o q n t => .inl (E.pres a o q n t)) E.tab
/-- a name takes data -/
theorem En.set {K : PySem.W.Frag} {zs : List Nat} {Z : Zn} {M : List Addr} {H : Hp} {σ : L2.St} {R : Hp → Prop} {v : V} {d : Dt} (E : En K zs Z M H σ Γ R) (iv : Is K (Fz M H) v d) {i : Nat} (hi : i < Γ.length) (hz : i ∉ zs) :
    En K zs Z M H (σ.set i (some v)) (Γ.set i (.im d)) R := by
  have hs : i < σ.length := by rw [E.len]; exact hi
  have nz : ∀ j a, (j, a) ∈ Z.io → j ≠ i := fun j a h e => hz (by rw [← E.zs, ← e]; exact List.mem_map.mpr ⟨(j, a), h, rfl⟩)
  refine ⟨by rw [List.length_set, List.length_set]; exact E.len, fun j e h => ?_, fun j e h => ?_, fun j l a d1 d2 n h1 h2 h3 h4 => ?_, E.tmp, E.rm, E.sub, E.trk, E.pres, E.tab, E.zs, fun j a h => ?_⟩
  · by_cases hj : j = i
    · subst hj
      rw [List.getElem?_set_self hi] at h
      cases h
      exact ⟨v, List.getElem?_set_self hs, iv⟩
    · rw [List.getElem?_set_ne (Ne.symm hj)] at h ⊢
      exact E.im j e h
  · by_cases hj : j = i
    · subst hj
      rw [List.getElem?_set_self hi] at h
      cases h
    · rw [List.getElem?_set_ne (Ne.symm hj)] at h ⊢
      exact E.ow j e h
  · by_cases hj : j = i
    · subst hj
      rw [List.getElem?_set_self hi] at h1
      cases h1
    · by_cases hl : l = i
      · subst hl
        rw [List.getElem?_set_self hi] at h2
        cases h2
      · rw [List.getElem?_set_ne (Ne.symm hj)] at h1 h3
        rw [List.getElem?_set_ne (Ne.symm hl)] at h2 h4
        exact E.dis j l a d1 d2 n h1 h2 h3 h4
  · obtain ⟨a1, a2, e, a3⟩ := E.iok j a h
    have n := nz j a h
    exact ⟨a1, by rw [List.getElem?_set_ne (Ne.symm n)]; exact a2, e, by rw [List.getElem?_set_ne (Ne.symm n)]; exact a3⟩
/-- what a target does -/
def Wg (c : Ct) (g : TG) (d : Dt) (Γ : List Sl) (Φ : List Sl → Prop) : Prop :=
  ∀ Z M H σ R v, c.Ok Z → En c.K c.zs Z M H σ Γ R → Is c.K (Fz M H) v d → ∀ Q : L2.St → Hp → Prop, (∀ Γ' σ' M' H', Φ Γ' → En c.K c.zs Z M' H' σ' Γ' R → Q σ' H') → g v σ H Q
def Wgs (c : Ct) (g : TGs) (ds : List Dt) (Γ : List Sl) (Φ : List Sl → Prop) : Prop :=
  ∀ Z M H σ R vs, c.Ok Z → En c.K c.zs Z M H σ Γ R → IsL c.K (Fz M H) vs ds → ∀ Q : L2.St → Hp → Prop, (∀ Γ' σ' M' H', Φ Γ' → En c.K c.zs Z M' H' σ' Γ' R → Q σ' H') → g vs σ H Q
theorem g_name {i : Nat} {d : Dt} {Φ : List Sl → Prop} (hi : i < Γ.length) (hz : i ∉ c.zs) (q : Φ (Γ.set i (.im d))) : Wg c (gName i) d Γ Φ := fun Z M H σ R v O E iv Q k => k _ _ M H q (E.set iv hi hz)
theorem gs_nil {Φ : List Sl → Prop} (q : Φ Γ) : Wgs c gNil [] Γ Φ := fun Z M H σ R vs O E i Q k => by
  cases i
  exact ⟨rfl, k Γ σ M H q E⟩
theorem gs_cons {g : TG} {gs : TGs} {d : Dt} {ds : List Dt} {Φ : List Sl → Prop} (h : Wg c g d Γ fun Γ1 => Wgs c gs ds Γ1 Φ) : Wgs c (gCons g gs) (d :: ds) Γ Φ := fun Z M H σ R vs O E i Q k => by
  cases i with
  | cons i1 i2 =>
    refine ⟨_, _, rfl, h Z M H σ (fun F => IsL c.K F _ ds ∧ R F) _ O (E.hold (fun _ _ e q => ⟨q.1.mono e, E.rm _ _ e q.2⟩) ⟨i2, E.tmp⟩) i1 _ fun Γ1 σ1 M1 H1 h1 E1 => ?_⟩
    exact h1 Z M1 H1 σ1 R _ O (E1.hold E.rm E1.tmp.2) E1.tmp.1 Q k
theorem g_tup {n : Nat} {gs : TGs} {ds : List Dt} {Φ : List Sl → Prop} (hn : ds.length = n) (h : Wgs c gs ds Γ Φ) : Wg c (gTup c.K n gs) (.tup ds) Γ Φ := fun Z M H σ R v O E i Q k => by
  cases i with
  | tup h1 h2 => exact ⟨_, _, rfl, sqT_fz h1, by rw [h2.length]; exact hn, h Z M H σ R _ O E h2 Q k⟩
theorem s_asg {g : TG} (h : Wp c te Γ fun d Γ1 => Wg c g d Γ1 fun Γ2 => Ψ (.nx Γ2)) : Ws c (tAsg te g) Γ Ψ := fun Z M H σ R D O E G =>
  h Z M H σ R O E _ fun v d Γ1 M1 H1 h1 E1 i => h1 Z M1 H1 σ R v O E1 i _ fun Γ2 σ2 M2 H2 p E2 => G.nx Γ2 σ2 M2 H2 p E2
end
end DL
/-! DL1: t[::-1] of a tuple -/
namespace DL
open PySem PySem.Spec PyProof.Rows L2 HT
section
variable {prog : Program} {w : World} {A : Around} {E : Value → Shared → Prop} {s : Shared}
theorem adjust_rev (n : Nat) : Builtin.Slice.sliceAdjust none none (-1) (n : Int) = ((n : Int) - 1, (-1 : Int)) := by
  unfold Builtin.Slice.sliceAdjust
  simp
theorem places_rev (n : Nat) : Builtin.Slice.slicePlaces ((n : Int) - 1) (-1) (-1) = n := by
  unfold Builtin.Slice.slicePlaces
  simp only [Int.neg_neg, Int.ediv_one]
  rw [if_neg (by decide)]
  split <;> omega
theorem sliceApplied_rev {sl : Addr} {t : Tok} {n : Nat} {Q : Int × Int × Nat → Shared → Prop} (hs : s.heap.IsSliceOf sl .none .none (.int (-1) t))
    (h : Q ((n : Int) - 1, -1, n) s) : wpAny (model prog w) A (Builtin.Slice.sliceApplied (.ref sl) (pure (n : Int))) Q E s := by
  obtain ⟨os, hos, hcs, hds⟩ := id hs
  unfold Builtin.Slice.sliceApplied Builtin.Slice.sliceFields
  refine wpAny_bind (wpAny_bind (wpAny_field hos hds (x := .none) rfl (wpAny_bind (wpAny_field hos hds (x := .none) rfl (wpAny_bind (wpAny_field hos hds (x := .int (-1) t) rfl (wpAny_pure ?_)))))))
  refine wpAny_bind (slicePart_int ?_)
  show wpAny _ _ (if ((-1 : Int) == 0) = true then _ else _) _ _ s
  rw [if_neg (by decide)]
  refine wpAny_bind (slicePart_none (wpAny_bind (slicePart_none (wpAny_bind (wpAny_pure ?_)))))
  show wpAny _ _ (match Builtin.Slice.sliceAdjust none none (-1) (n : Int) with | (lo, hi) => pure (lo, (-1 : Int), Builtin.Slice.slicePlaces lo hi (-1))) _ _ s
  rw [adjust_rev n]
  show wpAny _ _ (pure ((n : Int) - 1, (-1 : Int), Builtin.Slice.slicePlaces ((n : Int) - 1) (-1) (-1))) _ _ s
  rw [places_rev]
  exact wpAny_pure h
theorem fm_get (l : List Value) : (List.range l.length).filterMap (fun m => l[l.length - 1 - m]?) = l.reverse := by
  apply List.ext_getElem?
  intro i
  have e : ∀ (k : Nat) (h : k ≤ l.length), (List.range k).filterMap (fun m => l[l.length - 1 - m]?) = (List.range k).map (fun m => l.reverse.getD m default) := by
    intro k
    induction k with
    | zero => intro _; rfl
    | succ k ih =>
      intro hk
      rw [List.range_succ, List.filterMap_append, List.map_append, ih (by omega)]
      congr 1
      have h1 : l.length - 1 - k < l.length := by omega
      have h2 : k < l.reverse.length := by rw [List.length_reverse]; omega
      simp only [List.filterMap_cons, List.filterMap_nil, List.getElem?_eq_getElem h1, List.map_cons, List.map_nil, List.getD_eq_getElem?_getD, List.getElem?_eq_getElem h2, Option.getD_some, List.getElem_reverse]
  rw [e _ (Nat.le_refl _), List.getElem?_map]
  by_cases hi : i < l.length
  · rw [List.getElem?_range hi]
    have h2 : i < l.reverse.length := by rw [List.length_reverse]; exact hi
    simp [List.getD_eq_getElem?_getD, List.getElem?_eq_getElem h2]
  · rw [List.getElem?_eq_none (by rw [List.length_range]; omega), List.getElem?_eq_none (by rw [List.length_reverse]; omega)]
    rfl
theorem pick_rev (xs : Array Value) : ((List.range xs.size).filterMap fun (m : Nat) => xs[(((xs.size : Nat) : Int) - 1 + (m : Int) * -1).toNat]?).toArray = xs.toList.reverse.toArray := by
  have e : (List.range xs.size).filterMap (fun (m : Nat) => xs[(((xs.size : Nat) : Int) - 1 + (m : Int) * -1).toNat]?) = (List.range xs.toList.length).filterMap (fun m => xs.toList[xs.toList.length - 1 - m]?) := by
    rw [Array.length_toList]
    congr 1
    funext m
    rw [show (((xs.size : Nat) : Int) - 1 + (m : Int) * -1).toNat = xs.size - 1 - m by omega, Array.getElem?_toList]
  rw [e, fm_get]
theorem getItem_tuple_rev {t sl : Addr} {items : Array Value} {tk : Tok} {Q : Value → Shared → Prop} (ht : IsTup s.heap t items) (hs : s.heap.IsSliceOf sl .none .none (.int (-1) tk))
    (h : Q (.ref s.heap.objs.size) { s with heap := s.heap.push { cls := .type "tuple", data := .seq items.toList.reverse.toArray } })
    (hsz : items.size ≤ sizeLine) : wpAny (model prog w) A (getItem (.ref t) (.ref sl)) Q E s := by
  have htake : sizeOk (.seq items.toList.reverse.toArray) := by
    show items.toList.reverse.toArray.size ≤ sizeLine
    rw [List.size_toArray, List.length_reverse, Array.length_toList]
    exact hsz
  obtain ⟨os, hos, hcs, hds⟩ := id hs
  have hTs : s.TypeIs (.ref sl) "slice" := ⟨os, hos, hcs⟩
  unfold getItem
  try with_reducible refine wpAny_holding ?_
  first | refine wpAny_bind (wpAny_pure ?_) | skip
  refine wpAny_bind (wpAny_sequenceKey ht.typeIs (by decide) ?_)
  refine wpAny_bind (wpAny_callSpecial?_slot (name := Str.ofString "__getitem__") ht.typeIs PyProof.Rows.slot_tuple_getitem
    (wpAny_call_entry PyProof.Rows.slot_tuple_getitem ht.typeIs entry_tuple_getitem ?_ (args_tuple_getitem _ _)))
  show wpAny _ _ (Builtin.Tuple.tupleItemsOf (.ref t) >>= _) _ _ s
  refine wpAny_bind (tupleItemsOf_ ht ?_)
  refine wpAny_bind (wpAny_typeOf hTs ?_)
  rw [if_pos (by decide)]
  refine wpAny_bind (sliceApplied_rev hs ?_)
  have hno : ¬ ((((items.size : Nat) : Int) - 1 == 0 && (-1 : Int) == 1 && items.size == items.size) = true) := by
    intro q
    rw [Bool.and_eq_true, Bool.and_eq_true] at q
    exact absurd q.1.2 (by decide)
  show wpAny _ _ (if (((items.size : Nat) : Int) - 1 == 0 && (-1 : Int) == 1 && items.size == items.size) = true then _ else _) _ _ s
  rw [if_neg hno, pick_rev]
  first
    | exact wpAny_bind (m := Builtin.Tuple.tupleExact _) (wpAny_newObj_type (wpAny_pure ⟨_, rfl, wpAny_pure h⟩) htake)
    | exact wpAny_bind (m := Builtin.Tuple.tupleExact _) (wpAny_newObj_type (wpAny_bind (wpAny_pure (wpAny_pure ⟨_, rfl, wpAny_pure h⟩))) htake)
    | exact wpAny_bind (wpAny_bind (m := Builtin.Tuple.tupleExact _) (wpAny_newObj_type (wpAny_pure (wpAny_pure ⟨_, rfl, wpAny_pure h⟩)) htake))
    | exact wpAny_bind (wpAny_bind (m := Builtin.Tuple.tupleExact _) (wpAny_newObj_type (wpAny_pure ⟨_, rfl, wpAny_pure h⟩) htake))
end
/-- t[::-1], t a tuple or a list -/
def tRevS (K : PySem.W.Frag) (te : TE) : TE := fun σ H Q => te σ H fun x H1 => ∃ a xs, x = .ref a ∧ ((SqL K H1 a xs ∧ ∀ p, H1 p = none → Q (.ref p) (upd H1 p (.lst xs.reverse))) ∨ (SqT K H1 a xs ∧ ∀ p, H1 p = none → Q (.ref p) (upd H1 p (.tup xs.reverse))))
theorem pe_revS {X : Cx} {e : Expr} {te : TE} {k : Nat} {p1 p2 p3 pos : Pos} (he : PE X e te) : PE X (.Subscript e (.Slice none none (some (.UnaryOp .USub (.Constant (.int 1) k p1) p2)) p3) pos) (tRevS X.K te) := by
  refine ⟨fun pins s σ H Q I h => ?_⟩
  refine Subscript_ (thn (he.run pins s σ H _ I h) fun v s1 ⟨x, H1, I1, r1, q1⟩ => ?_)
  obtain ⟨a, xs, ex, q1⟩ := q1
  subst ex
  cases r1
  have hst : PO X (some (.UnaryOp .USub (.Constant (.int 1) k p1) p2)) (tPart (tUn (rU fun i => .int (-i)) (tC (.int 1)))) := po_some (pe_un un_neg pe_int)
  refine wpAny_Slice (thn (po_none.run pins s1 σ H1 (fun o H2 => o = none ∧ H2 = H1) I1 ⟨rfl, rfl⟩) fun vl s2 ⟨l, H2, I2, pl, el, e2⟩ => ?_)
  subst el e2
  refine thn (po_none.run pins s2 σ H2 (fun o H3 => o = none ∧ H3 = H2) I2 ⟨rfl, rfl⟩) fun vu s3 ⟨u, H3, I3, pu, eu, e3⟩ => ?_
  subst eu e3
  refine thn (hst.run pins s3 σ H3 (fun o H4 => o = some (-1) ∧ H4 = H3) I3 ⟨1, rfl, -1, rfl, rfl, rfl⟩) fun vs s4 ⟨o, H4, I4, ps, eo, e4⟩ => ?_
  subst eo e4
  have I5 : Inv X pins σ H4 { s4 with heap := s4.heap.push { cls := .type "slice", data := .fields #[vl, vu, vs] } } := I4.kept (t' := s4.toks) fun b ob q => Heap.get?_push_of_some _ q
  show wpAny (model X.prog X.w) X.A (subscriptTail e (.Slice none none (some (.UnaryOp .USub (.Constant (.int 1) k p1) p2)) p3) (.ref a) (.ref s4.heap.objs.size)) (EP X pins σ Q) X.xe { s4 with heap := s4.heap.push { cls := .type "slice", data := .fields #[vl, vu, vs] } }
  rcases q1 with ⟨hx, q⟩ | ⟨hx, q⟩
  · obtain ⟨its, r, ht, hz⟩ := I5.list hx
    have hlen := r.length
    refine tail_any (ops := [.ref a, .ref s4.heap.objs.size]) ht.isList.typeIs (PySem.slot_list_getitem.lookup) ?_ (by with_unfolding_all rfl)
    refine wpAny_getItem_list_slice ht.isList (Heap.IsSliceOf.new _ vl vu vs) pl pu ps (by decide) ?_ (by rw [List.size_toArray]; omega)
    rw [PySem.W.krv_pick]
    refine ⟨.ref _, _, I5.laid (t' := s4.toks) (o := .lst xs.reverse) (fun b ob q => Heap.get?_push_of_some _ q) (Nat.le_refl _) ?_, rfl, q _ (I5.hok.fresh (Nat.le_refl _))⟩
    exact ⟨by rw [List.length_reverse]; exact hz, _, 0, r.reverse, Heap.get?_push_size _ rfl⟩
  · obtain ⟨its, r, ht, hz⟩ := I5.tuple hx
    have hlen := r.length
    refine tail_any (ops := [.ref a, .ref s4.heap.objs.size]) ht.typeIs (PyProof.Rows.slot_tuple_getitem.lookup) ?_ (by with_unfolding_all rfl)
    cases pl
    cases pu
    cases ps
    refine getItem_tuple_rev ht (Heap.IsSliceOf.new _ _ _ _) ?_ (by rw [List.size_toArray]; omega)
    refine ⟨.ref _, _, I5.laid (t' := s4.toks) (o := .tup xs.reverse) (fun b ob q => Heap.get?_push_of_some _ q) (Nat.le_refl _) ?_, rfl, q _ (I5.hok.fresh (Nat.le_refl _))⟩
    exact ⟨by rw [List.length_reverse]; exact hz, _, r.reverse, _, Heap.get?_push_size _ rfl, rfl, _, rfl⟩
end DL
/-! DL2: sequences, calls, loops, comprehensions -/
namespace DL
open PySem L2 Evl

/-! ### sequences by data -/
def cut {α : Type} (xs : List α) (lo hi : Option Int) : List α := (xs.drop (HT.sIx xs.length 0 lo)).take (HT.sIx xs.length xs.length hi - HT.sIx xs.length 0 lo)
theorem cutV_eq (xs : List V) (lo hi : Option Int) : cutV xs lo hi = cut xs lo hi := rfl
theorem cut_whole {α : Type} (xs : List α) (lo hi : Option Int) (h : HT.sIx xs.length 0 lo = 0 ∧ HT.sIx xs.length xs.length hi = xs.length) : cut xs lo hi = xs := by
  unfold cut
  rw [h.1, h.2, List.drop_zero, Nat.sub_zero, List.take_length]
section
variable {K : PySem.W.Frag} {F : Hp}
theorem IsL.cut {vs : List V} {ds : List Dt} (h : IsL K F vs ds) (lo hi : Option Int) : IsL K F (cut vs lo hi) (cut ds lo hi) := by
  unfold DL.cut
  rw [h.length]
  exact (h.drop _).take _
theorem IsL.atI {vs : List V} {ds : List Dt} {i : Int} {d : Dt} (h : IsL K F vs ds) (e : atI ds i = some d) : ∃ v, atI vs i = some v ∧ Is K F v d := by
  unfold L2.atI at e ⊢
  rw [h.length]
  cases q : ixN ds.length i with
  | none => rw [q] at e; cases e
  | some j =>
    rw [q] at e
    exact h.get e
end
theorem sqL_is {K : PySem.W.Frag} {M : List Addr} {H : Hp} {v : V} {ds : List Dt} (h : Is K (Fz M H) v (.lst ds)) : ∃ a vs, v = .ref a ∧ H a = some (.lst vs) ∧ IsL K (Fz M H) vs ds := by
  cases h with
  | lst h1 h2 => exact ⟨_, _, rfl, Fz.lst h1, h2⟩
theorem sqT_is {K : PySem.W.Frag} {M : List Addr} {H : Hp} {v : V} {ds : List Dt} (h : Is K (Fz M H) v (.tup ds)) : ∃ a vs, v = .ref a ∧ SqT K H a vs ∧ SqT K (Fz M H) a vs ∧ IsL K (Fz M H) vs ds := by
  cases h with
  | tup h1 h2 => exact ⟨_, _, rfl, sqT_fz h1, h1, h2⟩
theorem new_fz {M : List Addr} {H : Hp} {p : Addr} {o : HO} (t : Trk M H) (hp : H p = none) (n : hidTbl (some o) = some o := by rfl) : Fz M (upd H p o) p = some o := Fz.mkN upd_same (Trk.ne t hp) n

section
variable {K : PySem.W.Frag} {P : Dt → Prop}
/-- + -/
def rAddX (K : PySem.W.Frag) : R2 := fun x y H Q => (∃ i j, x = .int i ∧ y = .int j ∧ Q (.int (i + j)) H) ∨ (∃ i j, x = .str i ∧ y = .str j ∧ i.length + j.length ≤ sizeLine ∧ Q (.str (i ++ j)) H) ∨ rCatA K x y H Q ∨ rCat x y H Q
theorem op_addX {X : Cx} : OpR X (binaryOp .Add) (rAddX X.K) := op_add.or (op_add_str.or (op_catA.or op_cat))
theorem rd_addI {i j : Int} (h : P (.int (i + j))) : RD K (rAddX K) (.int i) (.int j) P := fun M H v w _ iv iw Q q => by
  cases iv; cases iw
  exact .inl ⟨i, j, rfl, rfl, q _ _ H h (Ex.refl H) .int⟩
theorem rd_addS {i j : Str} (hl : i.length + j.length ≤ sizeLine) (h : P (.str (i ++ j))) : RD K (rAddX K) (.str i) (.str j) P := fun M H v w _ iv iw Q q => by
  cases iv; cases iw
  exact .inr (.inl ⟨i, j, rfl, rfl, hl, q _ _ H h (Ex.refl H) .str⟩)
theorem rd_addT {xs ys : List Dt} (hl : xs.length + ys.length ≤ sizeLine) (h : P (.tup (xs ++ ys))) : RD K (rAddX K) (.tup xs) (.tup ys) P := fun M H v w t iv iw Q q => by
  obtain ⟨a, vs, rfl, h1, h1', i1⟩ := sqT_is iv
  obtain ⟨b, ws, rfl, h2, h2', i2⟩ := sqT_is iw
  have l1 := i1.length
  have l2 := i2.length
  refine .inr (.inr (.inl ⟨a, b, vs, ws, rfl, rfl, h1, h2, by omega, fun e => ?_, fun n e => ?_, fun n n' p hp => ?_⟩))
  · subst e
    cases i1
    exact q _ _ H h (Ex.refl H) (.tup h2' i2)
  · subst e
    cases i2
    rw [List.append_nil] at h
    exact q _ _ H h (Ex.refl H) (.tup h1' i1)
  · exact q _ _ _ h (Ex.new hp) (.tup (.inl (.inl (new_fz t hp))) ((i1.append i2).mono (ex_fz (Ex.new hp))))
theorem rd_addL {xs ys : List Dt} (hl : xs.length + ys.length ≤ sizeLine) (h : P (.lst (xs ++ ys))) : RD K (rAddX K) (.lst xs) (.lst ys) P := fun M H v w t iv iw Q q => by
  obtain ⟨a, vs, rfl, h1, i1⟩ := sqL_is iv
  obtain ⟨b, ws, rfl, h2, i2⟩ := sqL_is iw
  have l1 := i1.length
  have l2 := i2.length
  exact .inr (.inr (.inr ⟨a, b, vs, ws, rfl, rfl, h1, h2, by omega, fun p hp => q _ _ _ h (Ex.new hp) (.lst (new_fz t hp) ((i1.append i2).mono (ex_fz (Ex.new hp))))⟩))

/-- x[i] -/
theorem rd_ixT {xs : List Dt} {i : Int} {d : Dt} (e : atI xs i = some d) (h : P d) : RD K (rIx K) (.tup xs) (.int i) P := fun M H v w t iv iw Q q => by
  obtain ⟨a, vs, rfl, h1, h1', i1⟩ := sqT_is iv
  cases iw
  obtain ⟨v, e1, e2⟩ := i1.atI e
  exact .inr (.inl ⟨a, vs, i, v, rfl, rfl, h1, e1, q _ _ H h (Ex.refl H) e2⟩)
theorem rd_ixL {xs : List Dt} {i : Int} {d : Dt} (e : atI xs i = some d) (h : P d) : RD K (rIx K) (.lst xs) (.int i) P := fun M H v w t iv iw Q q => by
  obtain ⟨a, vs, rfl, h1, i1⟩ := sqL_is iv
  cases iw
  obtain ⟨v, e1, e2⟩ := i1.atI e
  exact .inl ⟨a, vs, i, v, rfl, rfl, SqL.of h1, e1, q _ _ H h (Ex.refl H) e2⟩
theorem rd_ixS {z : Str} {i : Int} {c : Nat} (hl : z.length ≤ sizeLine) (e : atI z.cps.toList i = some c) (h : P (.str ⟨#[c]⟩)) : RD K (rIx K) (.str z) (.int i) P := fun M H v w t iv iw Q q => by
  cases iv; cases iw
  exact .inr (.inr ⟨z, i, c, rfl, rfl, hl, e, q _ _ H h (Ex.refl H) .str⟩)

/-! ==, != -/
mutual
def Dt.pd : Dt → PyData
  | .non => .none
  | .bl b => .bool b
  | .int i => .int i
  | .str x => .str x
  | .tup xs => .tuple (Dt.pds xs)
  | .lst xs => .list (Dt.pds xs)
  | .lsr xs => .list (Dt.pds xs)
  | _ => .dict []
def Dt.pds : List Dt → List PyData
  | [] => []
  | d :: r => d.pd :: Dt.pds r
end
mutual
def Dt.plain : Dt → Bool
  | .non => true
  | .bl _ => true
  | .int _ => true
  | .str _ => true
  | .tup xs => Dt.plains xs
  | .lst xs => Dt.plains xs
  | .lsr xs => Dt.plains xs
  | _ => false
def Dt.plains : List Dt → Bool
  | [] => true
  | d :: r => d.plain && Dt.plains r
end
mutual
theorem Is.dp {M : List Addr} {H : Hp} : ∀ {d : Dt} {v : V}, Is K (Fz M H) v d → d.plain = true → Dp K H v d.pd
  | .non, _, h, _ => by cases h; exact .non
  | .bl b, _, h, _ => by cases h; exact .bl b
  | .int i, _, h, _ => by cases h; exact .int i
  | .str x, _, h, _ => by cases h; exact .str x
  | .tup xs, _, h, p => by
    cases h with
    | tup h1 h2 => exact .tup (sqT_fz h1) (IsL.dp h2 p)
  | .lst xs, _, h, p => by
    cases h with
    | lst h1 h2 => exact .lst (SqL.of (Fz.lst h1)) (IsL.dp h2 p)
  | .lsr xs, _, h, p => by
    cases h with
    | lsr h1 h2 => exact .lst (sqL_fz h1) (IsL.dp h2 p)
  | .dK _ _, _, _, p => by cases p
  | .dT _ _, _, _, p => by cases p
  | .ins _ _ _, _, _, p => by cases p
  | .fn _, _, _, p => by cases p
  | .lam _ _ _ _, _, _, p => by cases p
theorem IsL.dp {M : List Addr} {H : Hp} : ∀ {ds : List Dt} {vs : List V}, IsL K (Fz M H) vs ds → Dt.plains ds = true → DpAll K H vs (Dt.pds ds)
  | [], _, h, _ => by cases h; exact .nil
  | d :: r, _, h, p => by
    cases h with
    | cons h1 h2 =>
      have p' : (d.plain && Dt.plains r) = true := p
      rw [Bool.and_eq_true] at p'
      exact .cons (Is.dp h1 p'.1) (IsL.dp h2 p'.2)
end
/-- data that == tells apart -/
def Dt.shp (d : Dt) : Bool := d.plain && SeqAt.shaped d.pd
def rEqX (K : PySem.W.Frag) : R2 := fun x y H Q => rEqD K x y H Q ∨ rEq x y H Q
def rNeX (K : PySem.W.Frag) : R2 := fun x y H Q => rNeD K x y H Q ∨ rNe x y H Q
theorem op_eqX {X : Cx} (hu : X.A.units + 64 < cLine) : OpR X (compareOp .Eq) (rEqX X.K) := (op_eqD hu).or op_eq
theorem op_neX {X : Cx} (hu : X.A.units + 64 < cLine) : OpR X (compareOp .NotEq) (rNeX X.K) := (op_neD hu).or op_ne
theorem rd_eq {x y : Dt} (hx : x.shp = true) (hy : y.shp = true) (h : P (.bl (PyData.eqv x.pd y.pd))) : RD K (rEqX K) x y P := fun M H v w t iv iw Q q => by
  have hx' : (x.plain && SeqAt.shaped x.pd) = true := hx
  have hy' : (y.plain && SeqAt.shaped y.pd) = true := hy
  rw [Bool.and_eq_true] at hx' hy'
  exact .inl ⟨_, _, iv.dp hx'.1, iw.dp hy'.1, hx'.2, hy'.2, q _ _ H h (Ex.refl H) .bl⟩
theorem rd_ne {x y : Dt} (hx : x.shp = true) (hy : y.shp = true) (h : P (.bl (!PyData.eqv x.pd y.pd))) : RD K (rNeX K) x y P := fun M H v w t iv iw Q q => by
  have hx' : (x.plain && SeqAt.shaped x.pd) = true := hx
  have hy' : (y.plain && SeqAt.shaped y.pd) = true := hy
  rw [Bool.and_eq_true] at hx' hy'
  exact .inl ⟨_, _, iv.dp hx'.1, iw.dp hy'.1, hx'.2, hy'.2, q _ _ H h (Ex.refl H) .bl⟩
theorem rd_eqI {i j : Int} (h : P (.bl (decide (i = j)))) : RD K (rEqX K) (.int i) (.int j) P := fun M H v w t iv iw Q q => by
  cases iv; cases iw
  refine .inr ⟨rfl, ?_⟩
  rw [dec_int]
  have e : (i == j) = decide (i = j) := Bool.beq_eq_decide_eq i j
  rw [e]
  exact q _ _ H h (Ex.refl H) .bl
theorem rd_neI {i j : Int} (h : P (.bl (!decide (i = j)))) : RD K (rNeX K) (.int i) (.int j) P := fun M H v w t iv iw Q q => by
  cases iv; cases iw
  refine .inr ⟨rfl, ?_⟩
  rw [dec_int]
  have e : (i == j) = decide (i = j) := Bool.beq_eq_decide_eq i j
  rw [e]
  exact q _ _ H h (Ex.refl H) .bl
theorem rd_eqS {i j : Str} (h : P (.bl (decide (i = j)))) : RD K (rEqX K) (.str i) (.str j) P := fun M H v w t iv iw Q q => by
  cases iv; cases iw
  refine .inr ⟨rfl, ?_⟩
  rw [dec_str]
  have e : (i == j) = decide (i = j) := Bool.beq_eq_decide_eq i j
  rw [e]
  exact q _ _ H h (Ex.refl H) .bl
theorem rd_neS {i j : Str} (h : P (.bl (!decide (i = j)))) : RD K (rNeX K) (.str i) (.str j) P := fun M H v w t iv iw Q q => by
  cases iv; cases iw
  refine .inr ⟨rfl, ?_⟩
  rw [dec_str]
  have e : (i == j) = decide (i = j) := Bool.beq_eq_decide_eq i j
  rw [e]
  exact q _ _ H h (Ex.refl H) .bl
theorem rd_eqB {i j : Bool} (h : P (.bl (decide (i = j)))) : RD K (rEqX K) (.bl i) (.bl j) P := fun M H v w t iv iw Q q => by
  cases iv; cases iw
  refine .inr ⟨rfl, ?_⟩
  rw [dec_bl]
  have e : (i == j) = decide (i = j) := Bool.beq_eq_decide_eq i j
  rw [e]
  exact q _ _ H h (Ex.refl H) .bl
theorem rd_neB {i j : Bool} (h : P (.bl (!decide (i = j)))) : RD K (rNeX K) (.bl i) (.bl j) P := fun M H v w t iv iw Q q => by
  cases iv; cases iw
  refine .inr ⟨rfl, ?_⟩
  rw [dec_bl]
  have e : (i == j) = decide (i = j) := Bool.beq_eq_decide_eq i j
  rw [e]
  exact q _ _ H h (Ex.refl H) .bl
end

/-! ### slices -/
section
variable {c : Ct} {Γ : List Sl} {Φ : Dt → List Sl → Prop} {ΦT : Bool → List Sl → Prop} {ΦA : List Dt → List Sl → Prop} {Ψ : Out → Prop} {ta tb tc te : TE} {t u : TT} {tr : TA}
def Wo (c : Ct) (to : TO) (Γ : List Sl) (Φ : Option Int → List Sl → Prop) : Prop :=
  ∀ Z M H σ R, c.Ok Z → En c.K c.zs Z M H σ Γ R → ∀ Q : Option Int → Hp → Prop, (∀ o Γ' M' H', Φ o Γ' → En c.K c.zs Z M' H' σ Γ' R → Q o H') → to σ H Q
theorem o_none {Φ : Option Int → List Sl → Prop} (q : Φ none Γ) : Wo c tNoPart Γ Φ := fun Z M H σ R O E Q k => k none Γ M H q E
theorem o_some {Φ : Option Int → List Sl → Prop} (h : Wp c te Γ fun d Γ1 => ∃ i, d = .int i ∧ Φ (some i) Γ1) : Wo c (tPart te) Γ Φ := fun Z M H σ R O E Q k =>
  h Z M H σ R O E _ fun v d Γ1 M1 H1 ⟨i, e, p⟩ E1 iv => by
    subst e
    cases iv
    exact ⟨i, rfl, k _ Γ1 M1 H1 p E1⟩
def RS (K : PySem.W.Frag) (r : V → Option Int → Option Int → Hp → VK → Prop) (x : Dt) (lo hi : Option Int) (P : Dt → Prop) : Prop :=
  ∀ M H v, Trk M H → Is K (Fz M H) v x → ∀ Q : VK, (∀ z d H', P d → Ex H H' → Is K (Fz M H') z d → Q z H') → r v lo hi H Q
theorem w_sl {r : V → Option Int → Option Int → Hp → VK → Prop} {tl th : TO} (h : Wp c te Γ fun x Γ1 => Wo c tl Γ1 fun lo Γ2 => Wo c th Γ2 fun hi Γ3 => RS c.K r x lo hi fun z => Φ z Γ3) : Wp c (tSl r te tl th) Γ Φ := fun Z M H σ R O E Q k =>
  h Z M H σ R O E _ fun v x Γ1 M1 H1 h1 E1 i1 => h1 Z M1 H1 σ _ O (E1.push i1) _ fun lo Γ2 M2 H2 h2 E2 => h2 Z M2 H2 σ _ O E2 _ fun hi Γ3 M3 H3 h3 E3 => by
    obtain ⟨ix, E'⟩ := E3.pop E.rm
    exact h3 M3 H3 v E3.trk ix Q fun z d H' p e i => k z d Γ3 M3 H' p (E'.ext e) i
def rSlX (K : PySem.W.Frag) : V → Option Int → Option Int → Hp → VK → Prop := fun x lo hi H Q => rSlA K x lo hi H Q ∨ rSlL K x lo hi H Q ∨ rSlS x lo hi H Q
theorem sl_X {X : Cx} : SlR X (rSlX X.K) := sl_tupA.or (sl_list.or sl_str)
variable {K : PySem.W.Frag} {P : Dt → Prop}
theorem rs_tup {xs : List Dt} {lo hi : Option Int} (h : P (.tup (cut xs lo hi))) : RS K (rSlX K) (.tup xs) lo hi P := fun M H v t iv Q q => by
  obtain ⟨a, vs, rfl, h1, h1', i1⟩ := sqT_is iv
  have l1 := i1.length
  refine .inl ⟨a, vs, rfl, h1, fun e => ?_, fun e p hp => ?_⟩
  · rw [l1] at e
    rw [cut_whole xs lo hi e] at h
    exact q _ _ H h (Ex.refl H) (.tup h1' i1)
  · exact q _ _ _ h (Ex.new hp) (.tup (.inl (.inl (new_fz t hp))) ((i1.cut lo hi).mono (ex_fz (Ex.new hp))))
theorem rs_lst {xs : List Dt} {lo hi : Option Int} (h : P (.lst (cut xs lo hi))) : RS K (rSlX K) (.lst xs) lo hi P := fun M H v t iv Q q => by
  obtain ⟨a, vs, rfl, h1, i1⟩ := sqL_is iv
  exact .inr (.inl ⟨a, vs, rfl, SqL.of h1, fun p hp => q _ _ _ h (Ex.new hp) (.lst (new_fz t hp) ((i1.cut lo hi).mono (ex_fz (Ex.new hp))))⟩)
theorem rs_lsr {xs : List Dt} {lo hi : Option Int} (h : P (.lst (cut xs lo hi))) : RS K (rSlX K) (.lsr xs) lo hi P := fun M H v t iv Q q => by
  cases iv with
  | lsr h1 i1 => exact .inr (.inl ⟨_, _, rfl, sqL_fz h1, fun p hp => q _ _ _ h (Ex.new hp) (.lst (new_fz t hp) ((i1.cut lo hi).mono (ex_fz (Ex.new hp))))⟩)
theorem rs_str {x : Str} {lo hi : Option Int} (hl : x.length ≤ sizeLine) (h : P (.str (cutS x lo hi))) : RS K (rSlX K) (.str x) lo hi P := fun M H v t iv Q q => by
  cases iv
  exact .inr (.inr ⟨x, rfl, hl, q _ _ H h (Ex.refl H) .str⟩)
theorem w_revT (h : Wp c te Γ fun x Γ1 => ∃ xs, x = .tup xs ∧ Φ (.tup xs.reverse) Γ1) : Wp c (tRevS c.K te) Γ Φ := fun Z M H σ R O E Q k =>
  h Z M H σ R O E _ fun v x Γ1 M1 H1 ⟨xs, e, p⟩ E1 ix => by
    subst e
    obtain ⟨a, vs, rfl, h1, h1', i1⟩ := sqT_is ix
    exact ⟨a, vs, rfl, .inr ⟨h1, fun q hq => k _ _ Γ1 M1 _ p (E1.new hq) (.tup (.inl (.inl (E1.fz hq _))) (i1.reverse.mono (ex_fz (Ex.new hq))))⟩⟩
theorem w_revL (h : Wp c te Γ fun x Γ1 => ∃ xs, x = .lst xs ∧ Φ (.lst xs.reverse) Γ1) : Wp c (tRevS c.K te) Γ Φ := fun Z M H σ R O E Q k =>
  h Z M H σ R O E _ fun v x Γ1 M1 H1 ⟨xs, e, p⟩ E1 ix => by
    subst e
    obtain ⟨a, vs, rfl, h1, i1⟩ := sqL_is ix
    exact ⟨a, vs, rfl, .inl ⟨SqL.of h1, fun q hq => k _ _ Γ1 M1 _ p (E1.new hq) (.lst (E1.fz hq _) (i1.reverse.mono (ex_fz (Ex.new hq))))⟩⟩

/-! ### calls of built-ins -/
def RC1 (K : PySem.W.Frag) (r : List V → Hp → VK → Prop) (xs : List Dt) (P : Dt → Prop) : Prop :=
  ∀ M H vs, Trk M H → IsL K (Fz M H) vs xs → ∀ Q : VK, (∀ z d H', P d → Ex H H' → Is K (Fz M H') z d → Q z H') → r vs H Q
theorem w_cb {r : List V → Hp → VK → Prop} {ta : TA} (h : Wa c ta Γ fun ds Γ1 => RC1 c.K r ds fun z => Φ z Γ1) : Wp c (tCB r ta) Γ Φ := fun Z M H σ R O E Q k =>
  h Z M H σ R O E _ fun vs ds Γ1 M1 H1 h1 E1 i => h1 M1 H1 vs E1.trk i Q fun z d H' p e i => k z d Γ1 M1 H' p (E1.ext e) i
end
end DL
/-! DL3: what is walked, loops, comprehensions, calls -/
namespace DL
open PySem L2 Evl

section
variable {c : Ct} {Γ : List Sl} {Φ : Dt → List Sl → Prop} {ΦT : Bool → List Sl → Prop} {ΦA : List Dt → List Sl → Prop} {Ψ : Out → Prop} {ta tb tc te : TE} {t u : TT} {tr : TA}

/-! ### what is walked -/
/-- what was there at the zone's beginning stands -/
def Zn.holds (Z : Zn) (H : Hp) : Prop := ∀ a o, Z.H0 a = some o → (∀ j, (j, a) ∉ Z.io) → noTbl o → H a = some o
structure Src (K : PySem.W.Frag) (J : It) (W S : Hp → Prop) (xs : List Dt) : Prop where
  mono : ∀ F F', Ex F F' → S F → S F'
  stop : ∀ M H i, W H → Trk M H → S (Fz M H) → xs.length ≤ i → J.stop i H
  go : ∀ M H i, W H → Trk M H → S (Fz M H) → i < xs.length → J.go i H
  yld : ∀ M H i x H', W H → Trk M H → S (Fz M H) → J.yld i H x H' → i < xs.length → ∃ d, xs[i]? = some d ∧ Ex H H' ∧ Is K (Fz M H') x d
def Wi (c : Ct) (wi : TI) (Γ : List Sl) (Φ : List Dt → List Sl → Prop) : Prop :=
  ∀ Z M H σ R, c.Ok Z → En c.K c.zs Z M H σ Γ R → ∀ Q : It → Hp → Prop, (∀ J W S xs Γ' M' H', Φ xs Γ' → Src c.K J W S xs → (∀ H1, Z.holds H1 → W H1) → En c.K c.zs Z M' H' σ Γ' (fun F => S F ∧ R F) → Q J H') → wi σ H Q
def rngD (lo : Int) (n : Nat) : List Dt := (List.range n).map fun (i : Nat) => Dt.int (lo + (i : Int))
theorem rngD_len (lo : Int) (n : Nat) : (rngD lo n).length = n := by unfold rngD; simp
theorem rngD_get {lo : Int} {n i : Nat} (h : i < n) : (rngD lo n)[i]? = some (.int (lo + (i : Int))) := by
  unfold rngD
  rw [List.getElem?_map, List.getElem?_range h]
  rfl
theorem src_rng (K : PySem.W.Frag) (lo : Int) (n : Nat) : Src K (Itr lo n) (fun _ => True) (fun _ => True) (rngD lo n) where
  mono := fun _ _ _ _ => trivial
  stop := fun M H i _ _ _ h => by rw [rngD_len] at h; exact h
  go := fun M H i _ _ _ h => by rw [rngD_len] at h; exact h
  yld := fun M H i x H' _ _ _ y h => by
    obtain ⟨e, y⟩ := y
    subst e y
    rw [rngD_len] at h
    exact ⟨_, rngD_get h, Ex.refl _, .int⟩
theorem src_tup (K : PySem.W.Frag) (a : Addr) (vs : List V) (xs : List Dt) (hl : vs.length = xs.length) : Src K (Itt K a) (fun _ => True) (fun F => SqT K F a vs ∧ IsL K F vs xs) xs where
  mono := fun _ _ e h => ⟨ex_t e h.1, h.2.mono e⟩
  stop := fun M H i _ _ s h => ⟨vs, sqT_fz s.1, by omega⟩
  go := fun M H i _ _ s h => by
    have hi : i < vs.length := by omega
    exact ⟨vs, vs[i], sqT_fz s.1, by simp [hi]⟩
  yld := fun M H i x H' _ _ s y h => by
    obtain ⟨e, y⟩ := y
    subst e
    have hx := y vs (sqT_fz s.1)
    obtain ⟨d, e1, e2⟩ := s.2.getV hx
    exact ⟨d, e1, Ex.refl _, e2⟩
theorem src_lst (K : PySem.W.Frag) (a : Addr) (vs : List V) (xs : List Dt) (hl : vs.length = xs.length) : Src K (Itl K a) (fun _ => True) (fun F => SqL K F a vs ∧ IsL K F vs xs) xs where
  mono := fun _ _ e h => ⟨ex_l e h.1, h.2.mono e⟩
  stop := fun M H i _ _ s h => ⟨vs, sqL_fz s.1, by omega⟩
  go := fun M H i _ _ s h => by
    have hi : i < vs.length := by omega
    exact ⟨vs, vs[i], sqL_fz s.1, by simp [hi]⟩
  yld := fun M H i x H' _ _ s y h => by
    obtain ⟨e, y⟩ := y
    subst e
    have hx := y vs (sqL_fz s.1)
    obtain ⟨d, e1, e2⟩ := s.2.getV hx
    exact ⟨d, e1, Ex.refl _, e2⟩
theorem En.src {K : PySem.W.Frag} {zs : List Nat} {Z : Zn} {M : List Addr} {H : Hp} {σ : L2.St} {R S : Hp → Prop} (E : En K zs Z M H σ Γ R) (m : ∀ F F', Ex F F' → S F → S F') (h : S (Fz M H)) : En K zs Z M H σ Γ (fun F => S F ∧ R F) :=
  E.hold (fun _ _ e q => ⟨m _ _ e q.1, E.rm _ _ e q.2⟩) ⟨h, E.tmp⟩
theorem i_rng1 {ta : TA} (h : Wa c ta Γ fun ds Γ1 => ∃ n : Int, ds = [.int n] ∧ -1000000000 ≤ n ∧ n ≤ 1000000000 ∧ ΦA (rngD 0 n.toNat) Γ1) : Wi c (iRng1 ta) Γ ΦA := fun Z M H σ R O E Q k =>
  h Z M H σ R O E _ fun vs ds Γ1 M1 H1 ⟨n, e, h1, h2, p⟩ E1 i => by
    subst e
    cases i with
    | cons i1 i2 =>
      cases i1
      cases i2
      exact ⟨n, rfl, by omega, by omega, k _ _ _ _ Γ1 M1 H1 p (src_rng c.K 0 n.toNat) (fun _ _ => trivial) (E1.src (fun _ _ _ _ => trivial) trivial)⟩
theorem i_rng2 {ta : TA} (h : Wa c ta Γ fun ds Γ1 => ∃ lo n : Int, ds = [.int lo, .int n] ∧ (-1000000000 ≤ lo ∧ lo ≤ 1000000000 ∧ -1000000000 ≤ n ∧ n ≤ 1000000000) ∧ ΦA (rngD lo (n - lo).toNat) Γ1) : Wi c (iRng2 ta) Γ ΦA := fun Z M H σ R O E Q k =>
  h Z M H σ R O E _ fun vs ds Γ1 M1 H1 ⟨lo, n, e, h1, p⟩ E1 i => by
    subst e
    cases i with
    | cons i1 i2 =>
      cases i2 with
      | cons i2 i3 =>
        cases i1
        cases i2
        cases i3
        exact ⟨lo, n, rfl, by omega, k _ _ _ _ Γ1 M1 H1 p (src_rng c.K lo (n - lo).toNat) (fun _ _ => trivial) (E1.src (fun _ _ _ _ => trivial) trivial)⟩
theorem i_tup (h : Wp c te Γ fun d Γ1 => ∃ xs, d = .tup xs ∧ ΦA xs Γ1) : Wi c (iTup c.K te) Γ ΦA := fun Z M H σ R O E Q k =>
  h Z M H σ R O E _ fun v d Γ1 M1 H1 ⟨xs, e, p⟩ E1 i => by
    subst e
    cases i with
    | tup h1 h2 => exact ⟨_, rfl, ⟨_, sqT_fz h1⟩, k _ _ _ xs Γ1 M1 H1 p (src_tup c.K _ _ xs h2.length) (fun _ _ => trivial) (E1.src (fun _ _ e h => ⟨ex_t e h.1, h.2.mono e⟩) ⟨h1, h2⟩)⟩
theorem i_lst (h : Wp c te Γ fun d Γ1 => ∃ xs, d = .lst xs ∧ ΦA xs Γ1) : Wi c (iList c.K te) Γ ΦA := fun Z M H σ R O E Q k =>
  h Z M H σ R O E _ fun v d Γ1 M1 H1 ⟨xs, e, p⟩ E1 i => by
    subst e
    cases i with
    | lst h1 h2 => exact ⟨_, rfl, ⟨_, SqL.of (Fz.lst h1)⟩, k _ _ _ xs Γ1 M1 H1 p (src_lst c.K _ _ xs h2.length) (fun _ _ => trivial) (E1.src (fun _ _ e h => ⟨ex_l e h.1, h.2.mono e⟩) ⟨SqL.of h1, h2⟩)⟩
theorem i_lsr (h : Wp c te Γ fun d Γ1 => ∃ xs, d = .lsr xs ∧ ΦA xs Γ1) : Wi c (iList c.K te) Γ ΦA := fun Z M H σ R O E Q k =>
  h Z M H σ R O E _ fun v d Γ1 M1 H1 ⟨xs, e, p⟩ E1 i => by
    subst e
    cases i with
    | lsr h1 h2 => exact ⟨_, rfl, ⟨_, sqL_fz h1⟩, k _ _ _ xs Γ1 M1 H1 p (src_lst c.K _ _ xs h2.length) (fun _ _ => trivial) (E1.src (fun _ _ e h => ⟨ex_l e h.1, h.2.mono e⟩) ⟨h1, h2⟩)⟩

/-! ### loops -/
def lpe (Ψ : Out → Prop) (N : List Sl → Prop) : Out → Prop
  | .nx Γ => N Γ
  | .ct Γ => N Γ
  | .bk Γ => Ψ (.nx Γ)
  | .rt d Γ => Ψ (.rt d Γ)
theorem for_core {g : TG} {ts : TS} {Z : Zn} {R S W : Hp → Prop} {D : Ends} {J : It} {xs : List Dt} {Γ1 : List Sl} {M1 : List Addr} {H1 : Hp} {σ : L2.St} (O : c.Ok Z) (src : Src c.K J W S xs) (hW : ∀ H1, Z.holds H1 → W H1) (E1 : En c.K c.zs Z M1 H1 σ Γ1 (fun F => S F ∧ R F)) (Jd : Nat → List Sl → Prop) (j0 : Jd 0 Γ1)
    (js : ∀ (i : Nat) (d : Dt) (Γ' : List Sl), xs[i]? = some d → Jd i Γ' → Wg c g d Γ' fun Γ2 => Ws c ts Γ2 (lpe Ψ (Jd (i + 1)))) (jd : ∀ Γ', Jd xs.length Γ' → Ψ (.nx Γ')) (G : Goes c Z R D Ψ) (rm : ∀ F F', Ex F F' → R F → R F') :
    ∃ P : Nat → Nat → L2.St → Hp → Prop, (∃ m, P 0 m σ H1) ∧ ∀ i m σ H, P i m σ H → (J.stop i H ∧ D.nx σ H) ∨ (J.go i H ∧ ∃ N : L2.St → Hp → Prop, (∀ σ' H', N σ' H' → ∃ m', m' < m ∧ P (i + 1) m' σ' H') ∧ ∀ x H', J.yld i H x H' → g x σ H' fun σ2 H2 => ts { D with nx := N, ct := N, bk := D.nx } σ2 H2) := by
  refine ⟨fun i m σ H => m = xs.length - i ∧ i ≤ xs.length ∧ ∃ Γ' M', Jd i Γ' ∧ En c.K c.zs Z M' H σ Γ' (fun F => S F ∧ R F), ⟨xs.length, by simp, Nat.zero_le _, Γ1, M1, j0, E1⟩, ?_⟩
  rintro i m σ2 H2 ⟨rfl, hi, Γ', M', jj, E'⟩
  by_cases hlt : i < xs.length
  · refine .inr ⟨src.go M' H2 i (hW _ E'.pres) E'.trk E'.tmp.1 hlt, fun σ3 H3 => ∃ Γ3 M3, Jd (i + 1) Γ3 ∧ En c.K c.zs Z M3 H3 σ3 Γ3 (fun F => S F ∧ R F), fun σ3 H3 ⟨Γ3, M3, j3, E3⟩ => ⟨xs.length - (i + 1), by omega, rfl, hlt, Γ3, M3, j3, E3⟩, fun x H3 y => ?_⟩
    obtain ⟨d, ed, ex, ix⟩ := src.yld M' H2 i x H3 (hW _ E'.pres) E'.trk E'.tmp.1 y hlt
    refine js i d Γ' ed jj Z M' H3 σ2 _ x O (E'.ext ex) ix _ fun Γ4 σ4 M4 H4 h4 E4 => ?_
    exact h4 Z M4 H4 σ4 _ _ O E4 ⟨fun Γ5 σ5 M5 H5 p5 E5 => ⟨Γ5, M5, p5, E5⟩, fun d5 Γ5 v5 σ5 M5 H5 p5 E5 i5 => G.rt d5 Γ5 v5 σ5 M5 H5 p5 (E5.hold (R' := R) rm E5.tmp.2) i5, fun Γ5 σ5 M5 H5 p5 E5 => G.nx Γ5 σ5 M5 H5 p5 (E5.hold (R' := R) rm E5.tmp.2), fun Γ5 σ5 M5 H5 p5 E5 => ⟨Γ5, M5, p5, E5⟩⟩
  · have e : i = xs.length := by omega
    subst e
    exact .inl ⟨src.stop M' H2 _ (hW _ E'.pres) E'.trk E'.tmp.1 (Nat.le_refl _), G.nx Γ' σ2 M' H2 (jd Γ' jj) (E'.hold (R' := R) rm E'.tmp.2)⟩
theorem s_for {wi : TI} {g : TG} {ts : TS} (h : Wi c wi Γ fun xs Γ1 => ∃ J : Nat → List Sl → Prop, J 0 Γ1 ∧ (∀ i d Γ', xs[i]? = some d → J i Γ' → Wg c g d Γ' fun Γ2 => Ws c ts Γ2 (lpe Ψ (J (i + 1)))) ∧ ∀ Γ', J xs.length Γ' → Ψ (.nx Γ')) : Ws c (tFor wi g ts) Γ Ψ := fun Z M H σ R D O E G =>
  h Z M H σ R O E _ fun J W S xs Γ1 M1 H1 ⟨Jd, j0, js, jd⟩ src hW E1 => for_core O src hW E1 Jd j0 js jd G E.rm
theorem s_while {ts : TS} (J : Nat → List Sl → Prop) (m0 : Nat) (j0 : J m0 Γ) (h : ∀ m Γ', J m Γ' → Wt c t Γ' fun b Γ2 => if b = true then Ws c ts Γ2 (lpe Ψ fun Γ3 => ∃ m', m' < m ∧ J m' Γ3) else Ψ (.nx Γ2)) : Ws c (tWhile t ts) Γ Ψ := fun Z M H σ R D O E G => by
  refine ⟨fun m σ H => ∃ Γ' M', J m Γ' ∧ En c.K c.zs Z M' H σ Γ' R, ⟨m0, Γ, M, j0, E⟩, ?_⟩
  rintro m σ2 H2 ⟨Γ', M', jj, E'⟩
  refine h m Γ' jj Z M' H2 σ2 R O E' _ fun b Γ3 M3 H3 p E3 => ?_
  cases b with
  | true =>
    refine ⟨fun σ4 H4 => ∃ m', m' < m ∧ ∃ Γ4 M4, J m' Γ4 ∧ En c.K c.zs Z M4 H4 σ4 Γ4 R, fun σ4 H4 ⟨m', l, q⟩ => ⟨m', l, q⟩, ?_⟩
    exact p Z M3 H3 σ2 R _ O E3 ⟨fun Γ5 σ5 M5 H5 ⟨m', l, p5⟩ E5 => ⟨m', l, Γ5, M5, p5, E5⟩, fun d5 Γ5 v5 σ5 M5 H5 p5 E5 i5 => G.rt d5 Γ5 v5 σ5 M5 H5 p5 E5 i5, fun Γ5 σ5 M5 H5 p5 E5 => G.nx Γ5 σ5 M5 H5 p5 E5, fun Γ5 σ5 M5 H5 ⟨m', l, p5⟩ E5 => ⟨m', l, Γ5, M5, p5, E5⟩⟩
  | false => exact G.nx Γ3 σ2 M3 H3 p E3

/-! ### slots forgotten -/
def wipeG (Γ : List Sl) : List Nat → List Sl
  | [] => Γ
  | v :: vs => (wipeG Γ vs).set v .un
theorem wipeG_len (Γ : List Sl) : ∀ vs, (wipeG Γ vs).length = Γ.length
  | [] => rfl
  | v :: vs => by unfold wipeG; rw [List.length_set, wipeG_len Γ vs]
theorem wipeG_get (Γ : List Sl) (i : Nat) : ∀ vs, (wipeG Γ vs)[i]? = if i ∈ vs then (if i < Γ.length then some .un else none) else Γ[i]?
  | [] => by simp [wipeG]
  | v :: vs => by
    unfold wipeG
    by_cases h : v = i
    · subst h
      by_cases hl : v < Γ.length
      · rw [List.getElem?_set_self (by rw [wipeG_len]; exact hl)]
        simp [hl]
      · rw [List.getElem?_eq_none (by rw [List.length_set, wipeG_len]; omega)]
        simp [hl]
    · rw [List.getElem?_set_ne h, wipeG_get Γ i vs]
      have : (i ∈ v :: vs) ↔ i ∈ vs := by simp [Ne.symm h]
      simp [this]
theorem wipe_get (σ : L2.St) (i : Nat) : ∀ vs, (wipe σ vs)[i]? = if i ∈ vs then (if i < σ.length then some none else none) else σ[i]?
  | [] => by simp [wipe]
  | v :: vs => by
    unfold wipe
    by_cases h : v = i
    · subst h
      by_cases hl : v < σ.length
      · rw [List.getElem?_set_self (by rw [wipe_length]; exact hl)]
        simp [hl]
      · rw [List.getElem?_eq_none (by rw [List.length_set, wipe_length]; omega)]
        simp [hl]
    · rw [List.getElem?_set_ne h, wipe_get σ i vs]
      have : (i ∈ v :: vs) ↔ i ∈ vs := by simp [Ne.symm h]
      simp [this]
theorem wipe_eq {σ σ' : L2.St} {vs : List Nat} (hl : σ.length = σ'.length) (h : ∀ i, i ∉ vs → σ[i]? = σ'[i]?) : wipe σ vs = wipe σ' vs := by
  apply List.ext_getElem?
  intro i
  rw [wipe_get, wipe_get, hl]
  by_cases hi : i ∈ vs
  · rw [if_pos hi, if_pos hi]
  · rw [if_neg hi, if_neg hi]
    exact h i hi
/-- another state that is alike where the slots tell something -/
theorem En.alike {K : PySem.W.Frag} {zs : List Nat} {Z : Zn} {M : List Addr} {H : Hp} {σ σ' : L2.St} {Γ' : List Sl} {R : Hp → Prop} (E : En K zs Z M H σ Γ R) (hl : σ'.length = σ.length) (hg : Γ'.length = Γ.length)
    (h : ∀ (i : Nat) (s : Sl), Γ'[i]? = some s → s ≠ .un → Γ[i]? = some s ∧ σ'[i]? = σ[i]?) (hz : ∀ i ∈ zs, Γ'[i]? = Γ[i]?) : En K zs Z M H σ' Γ' R where
  len := by rw [hl, hg]; exact E.len
  im := fun i d e => by
    obtain ⟨h1, h2⟩ := h i _ e (by simp)
    rw [h2]
    exact E.im i d h1
  ow := fun i d e => by
    obtain ⟨h1, h2⟩ := h i _ e (by simp)
    rw [h2]
    exact E.ow i d h1
  dis := fun i j a d e n h1 h2 h3 h4 => by
    obtain ⟨g1, g2⟩ := h i _ h1 (by simp)
    obtain ⟨g3, g4⟩ := h j _ h2 (by simp)
    rw [g2] at h3
    rw [g4] at h4
    exact E.dis i j a d e n g1 g3 h3 h4
  tmp := E.tmp
  rm := E.rm
  sub := E.sub
  trk := E.trk
  pres := E.pres
  tab := E.tab
  zs := E.zs
  iok := fun i a q => by
    obtain ⟨a1, a2, e, a3⟩ := E.iok i a q
    have hz' := hz i (by rw [← E.zs]; exact List.mem_map.mpr ⟨(i, a), q, rfl⟩)
    rw [a3] at hz'
    obtain ⟨g1, g2⟩ := h i _ hz' (by simp)
    exact ⟨a1, by rw [g2]; exact a2, e, hz'⟩
theorem En.wipe {K : PySem.W.Frag} {zs : List Nat} {Z : Zn} {M : List Addr} {H : Hp} {σ : L2.St} {R : Hp → Prop} {vs : List Nat} (E : En K zs Z M H σ Γ R) (hv : ∀ i ∈ vs, i ∉ zs) : En K zs Z M H (L2.wipe σ vs) (wipeG Γ vs) R := by
  refine E.alike (wipe_length _ _) (wipeG_len _ _) (fun i s e n => ?_) fun i hi => ?_
  · rw [wipeG_get] at e
    rw [wipe_get]
    by_cases hm : i ∈ vs
    · rw [if_pos hm] at e
      split at e
      · cases e
        exact (n rfl).elim
      · cases e
    · rw [if_neg hm] at e
      rw [if_neg hm]
      exact ⟨e, rfl⟩
  · rw [wipeG_get, if_neg fun hm => hv i hm hi]
theorem En.unwipe {K : PySem.W.Frag} {zs : List Nat} {Z : Zn} {M : List Addr} {H : Hp} {σ σ2 : L2.St} {R : Hp → Prop} {vs : List Nat} (E : En K zs Z M H σ2 Γ R) (hv : ∀ i ∈ vs, i ∉ zs) (hl : σ2.length = σ.length) (hs : ∀ i, i ∉ vs → σ2[i]? = σ[i]?) : En K zs Z M H σ (wipeG Γ vs) R := by
  refine E.alike hl.symm (wipeG_len _ _) (fun i s e n => ?_) fun i hi => ?_
  · rw [wipeG_get] at e
    by_cases hm : i ∈ vs
    · rw [if_pos hm] at e
      split at e
      · cases e
        exact (n rfl).elim
      · cases e
    · rw [if_neg hm] at e
      exact ⟨e, (hs i hm).symm⟩
  · rw [wipeG_get, if_neg fun hm => hv i hm hi]

/-! ### a new object that changes meanwhile -/
def Zn.lock (Z : Zn) (D : Addr) (o : HO) : Zn := ⟨upd Z.H0 D o, D :: Z.B, Z.io, Z.T⟩
theorem tabs_upd {T : TbT} {H : Hp} {D : Addr} {o o' : HO} (hD : H D = some o) (p : plainO o) (t : TbS T H) : TbS T (upd H D o') := ⟨fun x hx => by
  obtain ⟨ps, h1, h2, h3⟩ := t.1 x hx
  refine ⟨ps, by rw [upd_ne fun e => p.1 ps (by rw [e, hD] at h1; exact Option.some.inj h1)]; exact h1, h2, fun pos cv hc => ?_⟩
  obtain ⟨c, e1, e2⟩ := h3 pos cv hc
  exact ⟨c, e1, by rw [upd_ne fun e => p.2 c x.2 (by rw [e, hD] at e2; exact e ▸ Option.some.inj e2)]; exact e2⟩, fun P hP => by
  obtain ⟨ps, h1, h2⟩ := t.2 P hP
  exact ⟨ps, by rw [upd_ne fun e => p.1 ps (by rw [e, hD] at h1; exact Option.some.inj h1)]; exact h1, h2⟩⟩
theorem plain_lst {xs : List V} : plainO (.lst xs) := ⟨fun ps z => (by cases z), fun c q z => (by unfold LamX.CodeO at z; cases z)⟩
theorem plain_dK {xs : List (Key × V)} : plainO (.dK xs) := ⟨fun ps z => (by cases z), fun c q z => (by unfold LamX.CodeO at z; cases z)⟩
theorem plain_dT {xs : List (List Key × V)} : plainO (.dT xs) := ⟨fun ps z => (by cases z), fun c q z => (by unfold LamX.CodeO at z; cases z)⟩
theorem plain_ins {C dx : Addr} {fs : List (Str × V)} : plainO (.ins C dx fs) := ⟨fun ps z => (by cases z), fun c q z => (by unfold LamX.CodeO at z; cases z)⟩
section
variable {K : PySem.W.Frag} {zs : List Nat} {Z : Zn} {M : List Addr} {H : Hp} {σ : L2.St} {R : Hp → Prop} {D : Addr} {o o' : HO}
theorem ex_in (hD : H D = none) : Ex (Fz M H) (Fz (D :: M) (upd H D o)) := fun a u h => by
  obtain ⟨w, h1, _⟩ := Fz.src h
  have n : a ≠ D := ne_of_none h1 hD
  exact Fz.step h (fun v q _ => by rw [upd_ne n]; exact q) (by simp [n, Fz.nm h])
theorem En.lock (E : En K zs Z M H σ Γ R) (hD : H D = none) (po : plainO o) : En K zs (Z.lock D o) (D :: M) (upd H D o) σ Γ R := by
  have nD : ∀ a u, H a = some u → a ≠ D := fun a u h => ne_of_none h hD
  refine ⟨E.len, fun i d h => ?_, fun i d h => ?_, E.dis, E.rm _ _ (ex_in hD) E.tmp, E.rm, fun a h => ?_, fun a h => ?_, fun a u h n t => ?_, E.tab.ext (Ex.new hD), E.zs, fun i a h => ?_⟩
  · obtain ⟨v, h1, h2⟩ := E.im i d h
    exact ⟨v, h1, h2.mono (ex_in hD)⟩
  · obtain ⟨a, h1, h2, h3, h4⟩ := E.ow i d h
    obtain ⟨u, hu, _⟩ := E.trk a h2
    have n := nD a u hu
    refine ⟨a, h1, List.mem_cons_of_mem _ h2, ?_, h4.mono (ex_in hD) fun u _ q => by rw [upd_ne n]; exact q⟩
    rcases h3 with h3 | ⟨h3, h5⟩
    · exact .inl h3
    · exact .inr ⟨fun u t => by show upd Z.H0 D o a ≠ some u; rw [upd_ne n]; exact h3 u t, by show a ∉ D :: Z.B; simp [n, h5]⟩
  · rcases List.mem_cons.mp h with e | h
    · rw [e]; exact List.mem_cons_self
    · exact List.mem_cons_of_mem _ (E.sub a h)
  · rcases List.mem_cons.mp h with e | h
    · rw [e]; exact ⟨o, upd_same, po⟩
    · obtain ⟨u, hu, nu⟩ := E.trk a h
      exact ⟨u, by rw [upd_ne (nD a u hu)]; exact hu, nu⟩
  · by_cases e : a = D
    · subst e
      have h' : upd Z.H0 a o a = some u := h
      rw [upd_same] at h' ⊢
      exact h'
    · have h' : upd Z.H0 D o a = some u := h
      rw [upd_ne e] at h' ⊢
      exact E.pres a u h' n t
  · obtain ⟨a1, a2⟩ := E.iok i a h
    exact ⟨List.mem_cons_of_mem _ a1, a2⟩
theorem lock_ne {a : Addr} (hio : ∀ j, (j, D) ∉ Z.io) (h : (∃ j, (j, a) ∈ (Z.lock D o).io) ∨ ((∀ u, noTbl u → (Z.lock D o).H0 a ≠ some u) ∧ a ∉ (Z.lock D o).B)) : a ≠ D := by
  rintro rfl
  rcases h with ⟨j, h⟩ | ⟨_, h⟩
  · exact hio j h
  · exact h List.mem_cons_self
theorem En.relock (E : En K zs (Z.lock D o) M H σ Γ R) (hio : ∀ j, (j, D) ∉ Z.io) (po : plainO o) (po' : plainO o') : En K zs (Z.lock D o') M (upd H D o') σ Γ R := by
  have hM : D ∈ M := E.sub D List.mem_cons_self
  have hD : H D = some o := E.pres D o (show upd Z.H0 D o D = some o from upd_same) hio po.1
  have eF : Fz M (upd H D o') = Fz M H := by
    funext a
    unfold Fz
    by_cases h : a ∈ M
    · rw [if_pos h, if_pos h]
    · rw [if_neg h, if_neg h, upd_ne (fun e => h (by rw [e]; exact hM))]
  refine ⟨E.len, fun i d h => ?_, fun i d h => ?_, E.dis, ?_, E.rm, E.sub, fun a h => ?_, fun a u h n t => ?_, tabs_upd hD po E.tab, E.zs, E.iok⟩
  · rw [eF]
    exact E.im i d h
  · obtain ⟨a, h1, h2, h3, h4⟩ := E.ow i d h
    have n := lock_ne hio h3
    refine ⟨a, h1, h2, ?_, ?_⟩
    · rcases h3 with h3 | ⟨h3, h5⟩
      · exact .inl h3
      · refine .inr ⟨fun u t => ?_, h5⟩
        have h3' : upd Z.H0 D o a ≠ some u := h3 u t
        show upd Z.H0 D o' a ≠ some u
        rw [upd_ne n] at h3' ⊢
        exact h3'
    · rw [eF]
      exact h4.mono (Ex.refl _) fun u _ q => by rw [upd_ne n]; exact q
  · rw [eF]
    exact E.tmp
  · by_cases e : a = D
    · rw [e]; exact ⟨o', upd_same, po'⟩
    · rw [upd_ne e]; exact E.trk a h
  · by_cases e : a = D
    · subst e
      have h' : upd Z.H0 a o' a = some u := h
      rw [upd_same] at h' ⊢
      exact h'
    · have h' : upd Z.H0 D o' a = some u := h
      rw [upd_ne e] at h' ⊢
      exact E.pres a u (by show upd Z.H0 D o a = some u; rw [upd_ne e]; exact h') n t
theorem En.held (E : En K zs (Z.lock D o) M H σ Γ R) (hio : ∀ j, (j, D) ∉ Z.io) (po : plainO o) : H D = some o := E.pres D o (show upd Z.H0 D o D = some o from upd_same) hio po.1
theorem En.unlock (E : En K zs (Z.lock D o) M H σ Γ R) (hio : ∀ j, (j, D) ∉ Z.io) (hB : D ∉ Z.B) (h0 : ∀ u, noTbl u → Z.H0 D ≠ some u) : En K zs Z (M.filter (· ≠ D)) H σ Γ R ∧ Ex (Fz M H) (Fz (M.filter (· ≠ D)) H) := by
  have ex : Ex (Fz M H) (Fz (M.filter (· ≠ D)) H) := fun a u h => Fz.step h (fun _ q _ => q) fun q => Fz.nm h (List.mem_filter.mp q).1
  refine ⟨⟨E.len, fun i d h => ?_, fun i d h => ?_, E.dis, E.rm _ _ ex E.tmp, E.rm, fun a h => ?_, fun a h => E.trk a (List.mem_filter.mp h).1, fun a u h nn t => ?_, E.tab, E.zs, fun i a h => ?_⟩, ex⟩
  · obtain ⟨v, h1, h2⟩ := E.im i d h
    exact ⟨v, h1, h2.mono ex⟩
  · obtain ⟨a, h1, h2, h3, h4⟩ := E.ow i d h
    have n := lock_ne hio h3
    refine ⟨a, h1, List.mem_filter.mpr ⟨h2, by simp [n]⟩, ?_, h4.mono ex fun u _ q => q⟩
    rcases h3 with h3 | ⟨h3, h5⟩
    · exact .inl h3
    · refine .inr ⟨fun u t => ?_, fun q => h5 (List.mem_cons_of_mem _ q)⟩
      have h3' : upd Z.H0 D o a ≠ some u := h3 u t
      rw [upd_ne n] at h3'
      exact h3'
  · exact List.mem_filter.mpr ⟨E.sub a (List.mem_cons_of_mem _ h), by simp; exact fun e => hB (by rw [← e]; exact h)⟩
  · have n : a ≠ D := fun e => h0 u t (by rw [← e]; exact h)
    exact E.pres a u (by show upd Z.H0 D o a = some u; rw [upd_ne n]; exact h) nn t
  · obtain ⟨a1, a2⟩ := E.iok i a h
    rcases List.mem_cons.mp a1 with e | a1
    · subst e
      exact (hio i h).elim
    · exact ⟨a1, a2⟩
end
end
end DL
/-! DL4: comprehensions, promises and calls, objects of our own -/
namespace DL
open PySem L2 Evl
section
variable {c : Ct} {Γ : List Sl} {Φ : Dt → List Sl → Prop} {ΦT : Bool → List Sl → Prop} {ΦA : List Dt → List Sl → Prop} {Ψ : Out → Prop} {ta tb tc te : TE} {t u : TT} {tr : TA}

/-! ### comprehensions -/
/-- a target that stores in these slots alone -/
def Keeps (g : TG) (vs : List Nat) : Prop := ∀ v σ H (Q : L2.St → Hp → Prop), g v σ H Q → g v σ H fun σ2 H2 => (σ2.length = σ.length ∧ ∀ i, i ∉ vs → σ2[i]? = σ[i]?) ∧ Q σ2 H2
def KeepsS (g : TGs) (vs : List Nat) : Prop := ∀ xs σ H (Q : L2.St → Hp → Prop), g xs σ H Q → g xs σ H fun σ2 H2 => (σ2.length = σ.length ∧ ∀ i, i ∉ vs → σ2[i]? = σ[i]?) ∧ Q σ2 H2
theorem k_name {j : Nat} {vs : List Nat} (h : j ∈ vs) : Keeps (gName j) vs := fun v σ H Q q => ⟨⟨List.length_set, fun i hi => List.getElem?_set_ne (fun e => hi (by rw [← e]; exact h))⟩, q⟩
theorem k_nil {vs : List Nat} : KeepsS gNil vs := fun xs σ H Q ⟨e, q⟩ => ⟨e, ⟨rfl, fun _ _ => rfl⟩, q⟩
theorem k_cons {g : TG} {gs : TGs} {vs : List Nat} (mono : ∀ v σ H (Q Q' : L2.St → Hp → Prop), (∀ σ H, Q σ H → Q' σ H) → g v σ H Q → g v σ H Q') (h : Keeps g vs) (hs : KeepsS gs vs) : KeepsS (gCons g gs) vs := fun xs σ H Q ⟨v, r, e, q⟩ =>
  ⟨v, r, e, mono _ _ _ _ _ (fun σ1 H1 q1 => by
    obtain ⟨⟨l1, s1⟩, q1⟩ := q1
    have h2 := hs r σ1 H1 _ q1
    rw [l1] at h2
    have e2 : (fun (σ2 : L2.St) (H2 : Hp) => (σ2.length = σ.length ∧ ∀ i, i ∉ vs → σ2[i]? = σ1[i]?) ∧ Q σ2 H2) = (fun (σ2 : L2.St) (H2 : Hp) => (σ2.length = σ.length ∧ ∀ i, i ∉ vs → σ2[i]? = σ[i]?) ∧ Q σ2 H2) := by
      funext σ2 H2
      apply propext
      constructor
      · rintro ⟨⟨a, b⟩, d⟩
        exact ⟨⟨a, fun i hi => (b i hi).trans (s1 i hi)⟩, d⟩
      · rintro ⟨⟨a, b⟩, d⟩
        exact ⟨⟨a, fun i hi => (b i hi).trans (s1 i hi).symm⟩, d⟩
    rw [e2] at h2
    exact h2) (h v σ H _ q)⟩
theorem k_tup {K : PySem.W.Frag} {n : Nat} {gs : TGs} {vs : List Nat} (hs : KeepsS gs vs) : Keeps (gTup K n gs) vs := fun v σ H Q ⟨a, xs, e, h, l, q⟩ => ⟨a, xs, e, h, l, hs xs σ H Q q⟩
theorem mono_name {j : Nat} : ∀ v σ H (Q Q' : L2.St → Hp → Prop), (∀ σ H, Q σ H → Q' σ H) → gName j v σ H Q → gName j v σ H Q' := fun v σ H Q Q' m q => m _ _ q

theorem Wg.mono {g : TG} {d : Dt} {A B : List Sl → Prop} (h : Wg c g d Γ A) (m : ∀ Γ, A Γ → B Γ) : Wg c g d Γ B := fun Z M H σ R v O E i Q k => h Z M H σ R v O E i Q fun Γ' σ' M' H' a => k Γ' σ' M' H' (m _ a)
theorem wg_keeps {g : TG} {vs : List Nat} {d : Dt} {A : List Sl → Prop} (h : Wg c g d Γ A) (kp : Keeps g vs) {Z M H σ R v} (O : c.Ok Z) (E : En c.K c.zs Z M H σ Γ R) (i : Is c.K (Fz M H) v d) (Q : L2.St → Hp → Prop)
    (k : ∀ Γ' σ' M' H', A Γ' → En c.K c.zs Z M' H' σ' Γ' R → (σ'.length = σ.length ∧ ∀ i, i ∉ vs → σ'[i]? = σ[i]?) → Q σ' H') (mono : ∀ v σ H (Q Q' : L2.St → Hp → Prop), (∀ σ H, Q σ H → Q' σ H) → g v σ H Q → g v σ H Q') : g v σ H Q := by
  have h1 := h Z M H σ R v O E i (fun σ' H' => ∃ Γ' M', A Γ' ∧ En c.K c.zs Z M' H' σ' Γ' R) fun Γ' σ' M' H' a E' => ⟨Γ', M', a, E'⟩
  exact mono _ _ _ _ _ (fun σ' H' ⟨f, Γ', M', a, E'⟩ => k Γ' σ' M' H' a E' f) (kp v σ H _ h1)
theorem mono_tup {K : PySem.W.Frag} {n : Nat} {gs : TGs} (m : ∀ xs σ H (Q Q' : L2.St → Hp → Prop), (∀ σ H, Q σ H → Q' σ H) → gs xs σ H Q → gs xs σ H Q') : ∀ v σ H (Q Q' : L2.St → Hp → Prop), (∀ σ H, Q σ H → Q' σ H) → gTup K n gs v σ H Q → gTup K n gs v σ H Q' :=
  fun v σ H Q Q' f ⟨a, xs, e, h, l, q⟩ => ⟨a, xs, e, h, l, m xs σ H Q Q' f q⟩
theorem mono_nil : ∀ xs σ H (Q Q' : L2.St → Hp → Prop), (∀ σ H, Q σ H → Q' σ H) → gNil xs σ H Q → gNil xs σ H Q' := fun xs σ H Q Q' f ⟨e, q⟩ => ⟨e, f _ _ q⟩
theorem mono_cons {g : TG} {gs : TGs} (mg : ∀ v σ H (Q Q' : L2.St → Hp → Prop), (∀ σ H, Q σ H → Q' σ H) → g v σ H Q → g v σ H Q') (m : ∀ xs σ H (Q Q' : L2.St → Hp → Prop), (∀ σ H, Q σ H → Q' σ H) → gs xs σ H Q → gs xs σ H Q') :
    ∀ xs σ H (Q Q' : L2.St → Hp → Prop), (∀ σ H, Q σ H → Q' σ H) → gCons g gs xs σ H Q → gCons g gs xs σ H Q' := fun xs σ H Q Q' f ⟨v, r, e, q⟩ => ⟨v, r, e, mg _ _ _ _ _ (fun σ1 H1 q1 => m r σ1 H1 Q Q' f q1) q⟩
structure Tgt (g : TG) (vs : List Nat) : Prop where
  kp : Keeps g vs
  mono : ∀ v σ H (Q Q' : L2.St → Hp → Prop), (∀ σ H, Q σ H → Q' σ H) → g v σ H Q → g v σ H Q'
theorem tgt_name {j : Nat} {vs : List Nat} (h : j ∈ vs) : Tgt (gName j) vs := ⟨k_name h, mono_name⟩
theorem tgt_2 {K : PySem.W.Frag} {n i j : Nat} {vs : List Nat} (hi : i ∈ vs) (hj : j ∈ vs) : Tgt (gTup K n (gCons (gName i) (gCons (gName j) gNil))) vs :=
  ⟨k_tup (k_cons mono_name (k_name hi) (k_cons mono_name (k_name hj) k_nil)), mono_tup (mono_cons mono_name (mono_cons mono_name mono_nil))⟩
theorem tgt_3 {K : PySem.W.Frag} {n i j l : Nat} {vs : List Nat} (hi : i ∈ vs) (hj : j ∈ vs) (hl : l ∈ vs) : Tgt (gTup K n (gCons (gName i) (gCons (gName j) (gCons (gName l) gNil)))) vs :=
  ⟨k_tup (k_cons mono_name (k_name hi) (k_cons mono_name (k_name hj) (k_cons mono_name (k_name hl) k_nil))), mono_tup (mono_cons mono_name (mono_cons mono_name (mono_cons mono_name mono_nil)))⟩

theorem En.rewipe {K : PySem.W.Frag} {zs : List Nat} {Z : Zn} {M : List Addr} {H : Hp} {σ : L2.St} {R : Hp → Prop} {vs : List Nat} (E : En K zs Z M H (L2.wipe σ vs) (wipeG Γ vs) R) (hv : ∀ i ∈ vs, i ∉ zs) : En K zs Z M H σ (wipeG Γ vs) R := by
  refine E.alike (wipe_length _ _).symm rfl (fun i s e n => ⟨e, ?_⟩) fun i hi => rfl
  rw [wipeG_get] at e
  rw [wipe_get]
  by_cases hm : i ∈ vs
  · rw [if_pos hm] at e
    split at e
    · cases e
      exact (n rfl).elim
    · cases e
  · rw [if_neg hm]
theorem lcd_core {g : TG} {vs : List Nat} {Z : Zn} {R S W : Hp → Prop} {J : It} {xs : List Dt} {Γ1 : List Sl} {M1 : List Addr} {H1 : Hp} {σ : L2.St} {Q : VK} (hv : ∀ i ∈ vs, i ∉ c.zs) (tg : Tgt g vs) (O : c.Ok Z) (hl : xs.length ≤ sizeLine) (src : Src c.K J W S xs) (hW : ∀ H1, Z.holds H1 → W H1)
    (E1 : En c.K c.zs Z M1 H1 σ Γ1 (fun F => S F ∧ R F)) (Jd : Nat → List Dt → List Sl → Prop) (j0 : Jd 0 [] (wipeG Γ1 vs))
    (js : ∀ (i : Nat) (d : Dt) (acc : List Dt) (Γ' : List Sl), xs[i]? = some d → Jd i acc Γ' → Wg c.no g d Γ' fun Γ2 => Wt c.no t Γ2 fun b Γ3 => if b = true then Wp c.no te Γ3 fun e Γ4 => Jd (i + 1) (acc ++ [e]) (wipeG Γ4 vs) else Jd (i + 1) acc (wipeG Γ3 vs))
    (jd : ∀ (acc : List Dt) (Γ' : List Sl), acc.length ≤ xs.length → Jd xs.length acc Γ' → Φ (.lst acc) Γ') (rm : ∀ F F', Ex F F' → R F → R F') (k : ∀ v d Γ' M' H', Φ d Γ' → En c.K c.zs Z M' H' σ Γ' R → Is c.K (Fz M' H') v d → Q v H') (D : Addr) (hD : H1 D = none) :
    ∃ P : Nat → Nat → Hp → Prop, (∃ m, P 0 m (upd H1 D (.lst []))) ∧ ∀ i m H, P i m H → (J.stop i H ∧ Q (.ref D) H) ∨ (J.go i H ∧ ∃ Nx : Hp → Prop, (∀ H', Nx H' → ∃ m', m' < m ∧ P (i + 1) m' H') ∧ ∀ x H', J.yld i H x H' → g x (L2.wipe σ vs) H' fun σ2 H2 => L2.wipe σ2 vs = L2.wipe σ vs ∧ t σ2 H2 fun b H3 =>
      if b = true then te σ2 H3 fun y H4 => ∃ acc, H4 D = some (.lst acc) ∧ acc.length < sizeLine ∧ Nx (upd H4 D (.lst (acc ++ [y]))) else Nx H3) := by
  have nM := Trk.ne E1.trk hD
  have hio : ∀ j, (j, D) ∉ Z.io := fun j q => nM (E1.sub D (E1.iok j D q).1)
  have hB : D ∉ Z.B := fun q => nM (E1.sub D q)
  have oN : ∀ (o : List V), c.no.Ok (Z.lock D (.lst o)) := fun o => ⟨O.t, fun _ _ h _ _ => h.elim, fun q a => by
      by_cases e : a = D
      · subst e
        exact ⟨fun k z => (by have z' : upd Z.H0 a (.lst o) a = _ := z; rw [upd_same] at z'; cases z'), fun k z => (by have z' : upd Z.H0 a (.lst o) a = _ := z; rw [upd_same] at z'; cases z')⟩
      · exact ⟨fun k z => (O.nd q a).1 k (by have z' : upd Z.H0 D (.lst o) a = _ := z; rw [upd_ne e] at z'; exact z'), fun k z => (O.nd q a).2 k (by have z' : upd Z.H0 D (.lst o) a = _ := z; rw [upd_ne e] at z'; exact z')⟩⟩
  have h0 : ∀ u, noTbl u → Z.H0 D ≠ some u := fun u t q => by
    have := E1.pres D u q hio t
    rw [hD] at this
    cases this
  have hL : ∀ (o : HO) (H : Hp), (Z.lock D o).holds H → W H := fun o H q => hW H fun a u e n t => q a u (show upd Z.H0 D o a = some u by rw [upd_ne fun z => h0 u t (by rw [← z]; exact e)]; exact e) n t
  have EL := ((E1.wipe hv).src (S := fun F => IsL c.K F [] []) (fun _ _ _ _ => .nil) .nil).lock (o := .lst []) hD plain_lst
  refine ⟨fun i m H => m = xs.length - i ∧ i ≤ xs.length ∧ ∃ Γ0 M' vacc acc, acc.length ≤ i ∧ Jd i acc (wipeG Γ0 vs) ∧ En c.K c.zs (Z.lock D (.lst vacc)) M' H (L2.wipe σ vs) (wipeG Γ0 vs) (fun F => IsL c.K F vacc acc ∧ S F ∧ R F),
    ⟨xs.length, by simp, Nat.zero_le _, Γ1, _, [], [], Nat.le_refl _, j0, EL⟩, ?_⟩
  rintro i m H2 ⟨rfl, hi, Γ0, M', vacc, acc, ha, jj, E'⟩
  by_cases hlt : i < xs.length
  · refine .inr ⟨src.go M' H2 i (hL _ _ E'.pres) E'.trk E'.tmp.2.1 hlt, fun H3 => ∃ Γ0 M' vacc acc, acc.length ≤ i + 1 ∧ Jd (i + 1) acc (wipeG Γ0 vs) ∧ En c.K c.zs (Z.lock D (.lst vacc)) M' H3 (L2.wipe σ vs) (wipeG Γ0 vs) (fun F => IsL c.K F vacc acc ∧ S F ∧ R F),
      fun H3 ⟨Γ3, M3, va3, ac3, l3, j3, E3⟩ => ⟨xs.length - (i + 1), by omega, rfl, hlt, Γ3, M3, va3, ac3, l3, j3, E3⟩, fun x H3 y => ?_⟩
    obtain ⟨d, ed, ex, ix⟩ := src.yld M' H2 i x H3 (hL _ _ E'.pres) E'.trk E'.tmp.2.1 y hlt
    refine wg_keeps (js i d acc _ ed jj) tg.kp (oN _) (E'.ext ex) ix _ (fun Γ4 σ4 M4 H4 h4 E4 kp4 => ⟨?_, ?_⟩) tg.mono
    · have q1 : L2.wipe σ4 vs = L2.wipe (L2.wipe σ vs) vs := wipe_eq kp4.1 kp4.2
      rw [q1]
      exact wipe_eq (wipe_length _ _) fun i hi => by rw [wipe_get, if_neg hi]
    · refine h4 _ M4 H4 σ4 _ (oN _) E4 _ fun b Γ5 M5 H5 h5 E5 => ?_
      cases b with
      | false => exact ⟨Γ5, M5, vacc, acc, by omega, h5, E5.unwipe hv kp4.1 kp4.2⟩
      | true =>
        refine h5 _ M5 H5 σ4 _ (oN _) E5 _ fun y e Γ6 M6 H6 h6 E6 iy => ?_
        have hDM : D ∈ M6 := E6.sub D List.mem_cons_self
        have eF : ∀ o, Fz M6 (upd H6 D o) = Fz M6 H6 := fun o => by
          funext a
          unfold Fz
          by_cases h : a ∈ M6
          · rw [if_pos h, if_pos h]
          · rw [if_neg h, if_neg h, upd_ne (fun e => h (by rw [e]; exact hDM))]
        have lv := E6.tmp.1.length
        refine ⟨vacc, E6.held hio plain_lst, by omega, Γ6, M6, vacc ++ [y], acc ++ [e], by rw [List.length_append, List.length_singleton]; omega, h6, ?_⟩
        have E7 := E6.relock (o' := .lst (vacc ++ [y])) hio plain_lst plain_lst
        have E8 := E7.hold (R' := fun F => IsL c.K F (vacc ++ [y]) (acc ++ [e]) ∧ S F ∧ R F) (fun _ _ e q => ⟨q.1.mono e, src.mono _ _ e q.2.1, rm _ _ e q.2.2⟩) ⟨E7.tmp.1.append (.cons (by rw [eF]; exact iy) .nil), E7.tmp.2⟩
        exact E8.unwipe hv kp4.1 kp4.2
  · have e : i = xs.length := by omega
    subst e
    obtain ⟨E7, ex⟩ := E'.unlock hio hB h0
    have hH := E'.held hio plain_lst
    have nD : D ∉ M'.filter (· ≠ D) := fun q => by simp at q
    exact .inl ⟨src.stop M' H2 _ (hL _ _ E'.pres) E'.trk E'.tmp.2.1 (Nat.le_refl _), k _ _ _ _ H2 (jd acc _ ha jj) ((E7.hold (R' := R) rm E7.tmp.2.2).rewipe hv) (.lst (Fz.mkN hH nD rfl) (E'.tmp.1.mono ex))⟩
theorem w_lc {wi : TI} {g : TG} {vs : List Nat} (hv : ∀ i ∈ vs, i ∉ c.zs) (tg : Tgt g vs)
    (h : Wi c wi Γ fun xs Γ1 => xs.length ≤ sizeLine ∧ ∃ J : Nat → List Dt → List Sl → Prop, J 0 [] (wipeG Γ1 vs) ∧
      (∀ i d acc Γ', xs[i]? = some d → J i acc Γ' → Wg c.no g d Γ' fun Γ2 => Wt c.no t Γ2 fun b Γ3 => if b = true then Wp c.no te Γ3 fun e Γ4 => J (i + 1) (acc ++ [e]) (wipeG Γ4 vs) else J (i + 1) acc (wipeG Γ3 vs)) ∧
      ∀ acc Γ', acc.length ≤ xs.length → J xs.length acc Γ' → Φ (.lst acc) Γ') : Wp c (tLc wi g t te vs) Γ Φ := fun Z M H σ R O E Q k =>
  h Z M H σ R O E _ fun J W S xs Γ1 M1 H1 ⟨hl, Jd, j0, js, jd⟩ src hW E1 D hD => lcd_core hv tg O hl src hW E1 Jd j0 js jd E.rm k D hD

/-! ### promises -/
/-- what a def asks and gives, by data: of the arguments, what is wanted of its worth, what of an exception's class -/
abbrev Pm := List Dt → (Dt → Prop) → (Addr → Prop) → Prop
def spD (K : PySem.W.Frag) (T : TbT) (pm : Pm) : Sp := fun vs H Q E => TbS T H ∧ ∃ M ds Φ Ψ, Trk M H ∧ IsL K (Fz M H) vs ds ∧ pm ds Φ Ψ ∧ (∀ v d H', Φ d → Ey T H H' → Is K (Fz M H') v d → Q v H') ∧ (∀ cls H', Ψ cls → EyX T H H' → E (.ref cls) none H')
theorem Ct.Ok.out {Z : Zn} {M : List Addr} {H H' : Hp} {σ : L2.St} {R : Hp → Prop} (O : c.Ok Z) (E : En c.K c.zs Z M H σ Γ R) (e : EyX c.T H H') {cls : Addr} (p : c.P cls) : c.E (.ref cls) none H' :=
  O.x cls H' p (fun a o ha n t => e.1 a o (E.pres a o ha n t) t) (by rw [O.t]; exact e.2 (by rw [← O.t]; exact E.tab))
theorem Ct.Ok.ey {Z : Zn} {H H' : Hp} (O : c.Ok Z) (e : Ey c.T H H') : Ey Z.T H H' := by
  rw [O.t]
  exact e
theorem Ct.Ok.tab {Z : Zn} {M : List Addr} {H : Hp} {σ : L2.St} {R : Hp → Prop} (O : c.Ok Z) (E : En c.K c.zs Z M H σ Γ R) : TbS c.T H := by
  rw [← O.t]
  exact E.tab
theorem w_call {pm : Pm} {dvs : List V} {dds : List Dt} (hd : ∀ F, IsL c.K F dvs dds) (h : Wa c tr Γ fun ds Γ1 => pm (ds ++ dds) (fun d => Φ d Γ1) c.P) : Wp c (tCall (spD c.K c.T pm) dvs c.E tr) Γ Φ := fun Z M H σ R O E Q k =>
  h Z M H σ R O E _ fun vs ds Γ1 M1 H1 h1 E1 i => ⟨O.tab E1, M1, ds ++ dds, _, _, E1.trk, i.append (hd _), h1, fun v d H' p e i => k v d Γ1 M1 H' p (E1.extY (O.ey e)) i, fun cls H' p e => O.out E1 e p⟩
/-- .. where nothing is raised -/
theorem w_call0 {pm : Pm} {dvs : List V} {dds : List Dt} (hd : ∀ F, IsL c.K F dvs dds) (h : Wa c tr Γ fun ds Γ1 => pm (ds ++ dds) (fun d => Φ d Γ1) fun _ => False) : Wp c (tCall (spD c.K c.T pm) dvs E0 tr) Γ Φ := fun Z M H σ R O E Q k =>
  h Z M H σ R O E _ fun vs ds Γ1 M1 H1 h1 E1 i => ⟨O.tab E1, M1, ds ++ dds, _, _, E1.trk, i.append (hd _), h1, fun v d H' p e i => k v d Γ1 M1 H' p (E1.extY (O.ey e)) i, fun cls H' p e => p.elim⟩
theorem zip_none {ns : List Str} {m : Str} : ∀ {vs : List V}, m ∉ ns → (ns.zip vs).lookup m = none := by
  induction ns with
  | nil => intro vs _; simp
  | cons n r ih =>
    intro vs h
    cases vs with
    | nil => simp
    | cons v vs =>
      simp only [List.mem_cons, not_or] at h
      have q : (m == n) = false := by simp [h.1]
      simp only [List.zip_cons_cons, List.lookup_cons, q]
      exact ih h.2
theorem w_meth {pm : Pm} {C : Addr} {m : Str} {dvs : List V} {dds : List Dt} (hd : ∀ F, IsL c.K F dvs dds) (h : Wp c te Γ fun x Γ1 => ∃ ns es, x = .ins C ns es ∧ m ∉ ns ∧ Wa c tr Γ1 fun ds Γ2 => pm (x :: (ds ++ dds)) (fun d => Φ d Γ2) c.P) :
    Wp c (tMeth C m (spD c.K c.T pm) dvs c.E te tr) Γ Φ := fun Z M H σ R O E Q k =>
  h Z M H σ R O E _ fun v x Γ1 M1 H1 ⟨ns, es, e, hm, h1⟩ E1 i1 => by
    subst e
    cases id i1 with
    | ins g1 g2 g3 =>
      refine ⟨_, _, _, rfl, Fz.ins g1, zip_none hm, h1 Z M1 H1 σ _ O (E1.push i1) _ fun vs ds Γ2 M2 H2 h2 E2 i2 => ?_⟩
      obtain ⟨ix, E3⟩ := E2.pop E.rm
      exact ⟨O.tab E2, M2, _, _, _, E2.trk, .cons ix (i2.append (hd _)), h2, fun v d H' p e i => k v d Γ2 M2 H' p (E3.extY (O.ey e)) i, fun cls H' p e => O.out E2 e p⟩
theorem w_meth0 {pm : Pm} {C : Addr} {m : Str} {dvs : List V} {dds : List Dt} (hd : ∀ F, IsL c.K F dvs dds) (h : Wp c te Γ fun x Γ1 => ∃ ns es, x = .ins C ns es ∧ m ∉ ns ∧ Wa c tr Γ1 fun ds Γ2 => pm (x :: (ds ++ dds)) (fun d => Φ d Γ2) fun _ => False) :
    Wp c (tMeth C m (spD c.K c.T pm) dvs E0 te tr) Γ Φ := fun Z M H σ R O E Q k =>
  h Z M H σ R O E _ fun v x Γ1 M1 H1 ⟨ns, es, e, hm, h1⟩ E1 i1 => by
    subst e
    cases id i1 with
    | ins g1 g2 g3 =>
      refine ⟨_, _, _, rfl, Fz.ins g1, zip_none hm, h1 Z M1 H1 σ _ O (E1.push i1) _ fun vs ds Γ2 M2 H2 h2 E2 i2 => ?_⟩
      obtain ⟨ix, E3⟩ := E2.pop E.rm
      exact ⟨O.tab E2, M2, _, _, _, E2.trk, .cons ix (i2.append (hd _)), h2, fun v d H' p e i => k v d Γ2 M2 H' p (E3.extY (O.ey e)) i, fun cls H' p e => p.elim⟩
/-- a def whose first argument is an object that it may change: of it and the others, what is wanted of the worth and the object behind -/
abbrev PmI := Dt → List Dt → (Dt → Dt → Prop) → (Addr → Prop) → Prop
/-- all but the object at a (and the tables) stays -/
def Eb (T : TbT) (a : Addr) (H H' : Hp) : Prop := (∀ b o, b ≠ a → H b = some o → noTbl o → H' b = some o) ∧ (TbS T H → TbS T H')
def EbX (T : TbT) (a : Addr) (H H' : Hp) : Prop := (∀ b o, b ≠ a → H b = some o → noTbl o → kept o (H' b)) ∧ (TbS T H → TbS T H')
def spI (K : PySem.W.Frag) (T : TbT) (pm : PmI) : Sp := fun vs H Q E => TbS T H ∧ ∃ a ws M d0 ds Φ Ψ, vs = .ref a :: ws ∧ a ∈ M ∧ Trk M H ∧ Ob K (Fz M H) H a d0 ∧ IsL K (Fz M H) ws ds ∧ pm d0 ds Φ Ψ ∧
  (∀ v d d1 H', Φ d d1 → Eb T a H H' → Ob K (Fz M H') H' a d1 → Is K (Fz M H') v d → Q v H') ∧ (∀ cls H', Ψ cls → EbX T a H H' → E (.ref cls) none H')
theorem make_core {pm : PmI} {C x dx : Addr} {K : PySem.W.Frag} {T : TbT} {zs : List Nat} {Z : Zn} {M : List Addr} {H : Hp} {σ : L2.St} {R : Hp → Prop} {vs : List V} {ds : List Dt} {E : XK} {Q : VK} {A : Dt → Dt → Prop} {B : Addr → Prop} (e : En K zs Z M H σ Γ R)
    (tb : TbS T H) (hx : H x = none) (hdx : H dx = none) (ne : dx ≠ x) (i : IsL K (Fz M H) vs ds) (h : pm (.ins C [] []) ds A B)
    (k : ∀ d d1 H', A d d1 → Ey T H H' → Ob K (Fz (x :: M) H') H' x d1 → Q (.ref x) H') (kn : ∀ v d d1 H', A d d1 → Is K (Fz (x :: M) H') v d → v = .non) (kx : ∀ cls H', B cls → EyX T H H' → E (.ref cls) none H') :
    spI K T pm (.ref x :: vs) (upd (upd H dx (.own x)) x (.ins C dx [])) (fun v H2 => v = .non ∧ Q (.ref x) H2) E := by
  have e1 : Ex H (upd H dx (.own x)) := Ex.new hdx
  have e2 : Ex H (upd (upd H dx (.own x)) x (.ins C dx [])) := e1.trans (Ex.new (by rw [upd_ne (Ne.symm ne)]; exact hx))
  have e3 : Ex (Fz M H) (Fz (x :: M) (upd (upd H dx (.own x)) x (.ins C dx []))) := fun a u q => by
    obtain ⟨w, q1, _⟩ := Fz.src q
    exact Fz.step q (fun v q' _ => e2 a v q') (by simp [Fz.nm q, ne_of_none q1 hx])
  have ext : ∀ {H' : Hp}, Eb T x (upd (upd H dx (.own x)) x (.ins C dx [])) H' → Ey T H H' := fun f => ⟨fun a u q n => f.1 a u (ne_of_none q hx) (e2 a u q) n, fun t => f.2 (t.ext e2)⟩
  have extX : ∀ {H' : Hp}, EbX T x (upd (upd H dx (.own x)) x (.ins C dx [])) H' → EyX T H H' := fun f => ⟨fun a u q n => f.1 a u (ne_of_none q hx) (e2 a u q) n, fun t => f.2 (t.ext e2)⟩
  refine ⟨tb.ext e2, x, vs, x :: M, .ins C [] [], ds, A, B, rfl, List.mem_cons_self, fun b hb => ?_, ⟨dx, [], upd_same, rfl, .nil⟩, i.mono e3, h, fun v d d1 H' p f ob iv => ⟨kn v d d1 H' p iv, k d d1 H' p (ext f) ob⟩, fun cls H' p f => kx cls H' p (extX f)⟩
  rcases List.mem_cons.mp hb with q | q
  · rw [q]; exact ⟨_, upd_same, plain_ins⟩
  · obtain ⟨o, z, n⟩ := e.trk b q
    exact ⟨o, e2 b o z, n⟩
theorem ob_is {K : PySem.W.Frag} {M : List Addr} {H : Hp} {x C : Addr} {ns : List Str} {es : List Dt} (hx : x ∉ M) (h : Ob K (Fz (x :: M) H) H x (.ins C ns es)) : Is K (Fz M H) (.ref x) (.ins C ns es) := by
  obtain ⟨dx, vs, h1, h2, h3⟩ := h
  exact .ins (Fz.mkN h1 hx rfl) h2 (h3.mono fun a u q => Fz.step q (fun _ q' _ => q') fun z => Fz.nm q (List.mem_cons_of_mem _ z))
theorem w_make {pm : PmI} {C : Addr} {dvs : List V} {dds : List Dt} (hd : ∀ F, IsL c.K F dvs dds) (h : Wa c tr Γ fun ds Γ1 => pm (.ins C [] []) (ds ++ dds) (fun d d1 => d = .non ∧ ∃ ns es, d1 = .ins C ns es ∧ Φ d1 Γ1) c.P) :
    Wp c (tMake C (spI c.K c.T pm) dvs c.E tr) Γ Φ := fun Z M H σ R O E Q k =>
  h Z M H σ R O E _ fun vs ds Γ1 M1 H1 h1 E1 i x dx hx hdx ne => make_core E1 (O.tab E1) hx hdx ne (i.append (hd _)) h1 (fun d d1 H' p e ob => by
    obtain ⟨_, ns, es, e1, p⟩ := p
    subst e1
    exact k _ _ Γ1 M1 H' p (E1.extY (O.ey e)) (ob_is (Trk.ne E1.trk hx) ob)) (fun v d d1 H' p iv => by
    obtain ⟨e, _⟩ := p
    subst e
    cases iv
    rfl) fun cls H' p e => O.out E1 e p
theorem w_make0 {pm : PmI} {C : Addr} {dvs : List V} {dds : List Dt} (hd : ∀ F, IsL c.K F dvs dds) (h : Wa c tr Γ fun ds Γ1 => pm (.ins C [] []) (ds ++ dds) (fun d d1 => d = .non ∧ ∃ ns es, d1 = .ins C ns es ∧ Φ d1 Γ1) fun _ => False) :
    Wp c (tMake C (spI c.K c.T pm) dvs E0 tr) Γ Φ := fun Z M H σ R O E Q k =>
  h Z M H σ R O E _ fun vs ds Γ1 M1 H1 h1 E1 i x dx hx hdx ne => make_core E1 (O.tab E1) hx hdx ne (i.append (hd _)) h1 (fun d d1 H' p e ob => by
    obtain ⟨_, ns, es, e1, p⟩ := p
    subst e1
    exact k _ _ Γ1 M1 H' p (E1.extY (O.ey e)) (ob_is (Trk.ne E1.trk hx) ob)) (fun v d d1 H' p iv => by
    obtain ⟨e, _⟩ := p
    subst e
    cases iv
    rfl) fun cls H' p e => p.elim
end

/-! ### a def's promise by its body -/
def slots0 (N : List Str) (ds : List Dt) : List Sl := ds.map Sl.im ++ List.replicate (N.length - ds.length) Sl.un
def rets (Φ : Dt → Prop) : Out → Prop
  | .rt d _ => Φ d
  | .nx _ => Φ .non
  | _ => False
theorem start_get {N : List Str} {vs : List V} {i : Nat} {v : V} (h : vs[i]? = some v) : (L2.start N vs)[i]? = some (some v) := by
  unfold L2.start
  rw [List.getElem?_append_left (by rw [List.length_map]; exact (List.getElem?_eq_some_iff.mp h).1), List.getElem?_map, h]
  rfl
theorem slots0_get {N : List Str} {ds : List Dt} {i : Nat} {s : Sl} (h : (slots0 N ds)[i]? = some s) : s = .un ∨ ∃ d, s = .im d ∧ ds[i]? = some d := by
  unfold slots0 at h
  by_cases hi : i < (ds.map Sl.im).length
  · rw [List.getElem?_append_left hi, List.getElem?_map] at h
    cases e : ds[i]? with
    | none => rw [e] at h; cases h
    | some d =>
      rw [e] at h
      cases h
      exact .inr ⟨d, rfl, rfl⟩
  · rw [List.getElem?_append_right (by omega)] at h
    obtain ⟨h1, h2⟩ := List.getElem?_eq_some_iff.mp h
    rw [List.getElem_replicate] at h2
    exact .inl h2.symm
theorem en_start {K : PySem.W.Frag} {T : TbT} {N : List Str} {M : List Addr} {H : Hp} {vs : List V} {ds : List Dt} (t : Trk M H) (tb : TbS T H) (i : IsL K (Fz M H) vs ds) : En K [] ⟨H, M, [], T⟩ M H (L2.start N vs) (slots0 N ds) (fun _ => True) where
  len := by unfold L2.start slots0; simp [i.length]
  im := fun j d h => by
    rcases slots0_get h with q | ⟨d', q, e⟩
    · cases q
    · cases q
      obtain ⟨v, h1, h2⟩ := i.get e
      exact ⟨v, start_get h1, h2⟩
  ow := fun j d h => by
    rcases slots0_get h with q | ⟨d', q, e⟩ <;> cases q
  dis := fun j l a d e n h => by
    rcases slots0_get h with q | ⟨d', q, e⟩ <;> cases q
  tmp := trivial
  rm := fun _ _ _ _ => trivial
  sub := fun _ h => h
  trk := t
  pres := fun _ _ h _ _ => h
  tab := tb
  zs := rfl
  iok := fun _ _ h => by cases h
section
variable {P : Program} {w : World} {K : PySem.W.Frag} {T : TbT} {mg : Str → Option Value} {base : Heap}
theorem fn_D {x qual : Str} {st : Stmt} {f : Addr} {fd : FuncData} {N ps : List Str} {k : Nat} {pm : Pm} (F : Fun K x qual st f fd) (S : FnScope N ps (defScope st)) (len : ∀ ds Φ Ψ, pm ds Φ Ψ → ds.length = ps.length)
    (hb : ∀ (cdv : Value) (A : Around) (outer : List Env) (s : Shared) (H : Hp) (E : XK), Room k (A.deeper (PyProof.Rows.envOfC qual (defScope st) s.heap.objs.size f cdv)) →
      ∃ t, PSs (cxOf (L2.CX P w) P w K mg base N qual (defScope st) f cdv A outer s H E) (defBody st) t ∧ ∀ ds Φ Ψ, pm ds Φ Ψ → Ws ⟨K, T, [], E, Ψ, False⟩ t (slots0 N ds) (rets Φ)) : FnOk P w K mg base (L2.CX P w) (k + 1) f fd ps (spD K T pm) := by
  refine F.okX S (fun vs H Q E h => ?_) fun cdv A outer s H vs Q E hr h => ?_
  · obtain ⟨_, M, ds, Φ, Ψ, _, i, p, _⟩ := h
    rw [i.length]
    exact len _ _ _ p
  · obtain ⟨tb, M, ds, Φ, Ψ, t, i, p, q, qx⟩ := h
    obtain ⟨tt, h1, h2⟩ := hb cdv A outer s H E hr
    refine ⟨tt, h1, h2 ds Φ Ψ p ⟨H, M, [], T⟩ M H _ (fun _ => True) _ ⟨rfl, fun cls H' pc f tb' => qx cls H' pc ⟨fun a o ha n => f a o ha (fun j => by simp) n, fun _ => tb'⟩, False.elim⟩ (en_start t tb i) ⟨fun Γ σ M' H' p E => ?_, fun d Γ v σ M' H' p E iv => ?_, fun _ _ _ _ p _ => p.elim, fun _ _ _ _ p _ => p.elim⟩⟩
    · exact q .non .non H' p ⟨fun a o ha n => E.pres a o ha (fun j => by simp) n, fun _ => E.tab⟩ .non
    · exact q v d H' p ⟨fun a o ha n => E.pres a o ha (fun j => by simp) n, fun _ => E.tab⟩ (iv.mono fun a u z => Fz.step z (fun _ q _ => q) fun m => Fz.nm z (E.sub a m))
def rets1 (Φ : Dt → Dt → Prop) : Out → Prop
  | .rt d Γ => ∀ d1, Γ[0]? = some (.ow d1) → Φ d d1
  | .nx Γ => ∀ d1, Γ[0]? = some (.ow d1) → Φ .non d1
  | _ => False
def slots1 (N : List Str) (d0 : Dt) (ds : List Dt) : List Sl := .ow d0 :: ds.map Sl.im ++ List.replicate (N.length - (ds.length + 1)) Sl.un
theorem slots1_get {N : List Str} {d0 : Dt} {ds : List Dt} {i : Nat} {s : Sl} (h : (slots1 N d0 ds)[i]? = some s) : s = .un ∨ (i = 0 ∧ s = .ow d0) ∨ ∃ j d, i = j + 1 ∧ s = .im d ∧ ds[j]? = some d := by
  cases i with
  | zero => exact .inr (.inl ⟨rfl, (Option.some.inj h).symm⟩)
  | succ i =>
    have h' : (ds.map Sl.im ++ List.replicate (N.length - (ds.length + 1)) Sl.un)[i]? = some s := h
    by_cases hi : i < (ds.map Sl.im).length
    · rw [List.getElem?_append_left hi, List.getElem?_map] at h'
      cases e : ds[i]? with
      | none => rw [e] at h'; cases h'
      | some d =>
        rw [e] at h'
        cases h'
        exact .inr (.inr ⟨i, d, rfl, rfl, e⟩)
    · rw [List.getElem?_append_right (by omega)] at h'
      obtain ⟨h1, h2⟩ := List.getElem?_eq_some_iff.mp h'
      rw [List.getElem_replicate] at h2
      exact .inl h2.symm
theorem en_start1 {K : PySem.W.Frag} {T : TbT} {N : List Str} {M : List Addr} {H : Hp} {a : Addr} {ws : List V} {d0 : Dt} {ds : List Dt} (ha : a ∈ M) (t : Trk M H) (tb : TbS T H) (ob : Ob K (Fz M H) H a d0) (i : IsL K (Fz M H) ws ds) (hN : ds.length + 1 ≤ N.length) :
    En K [0] ⟨H, M, [(0, a)], T⟩ M H (L2.start N (.ref a :: ws)) (slots1 N d0 ds) (fun _ => True) where
  len := by unfold L2.start slots1; simp [i.length]
  im := fun j d h => by
    rcases slots1_get h with q | ⟨_, q⟩ | ⟨l, d', e1, q, e⟩
    · cases q
    · cases q
    · cases q
      obtain ⟨v, h1, h2⟩ := i.get e
      exact ⟨v, start_get (by rw [e1]; exact h1), h2⟩
  ow := fun j d h => by
    rcases slots1_get h with q | ⟨e1, q⟩ | ⟨l, d', e1, q, e⟩
    · cases q
    · cases q
      subst e1
      exact ⟨a, start_get rfl, ha, .inl ⟨0, by simp⟩, ob⟩
    · cases q
  dis := fun j l a d e n h1 h2 => by
    rcases slots1_get h1 with q | ⟨e1, q⟩ | ⟨_, d', _, q, _⟩
    · cases q
    · rcases slots1_get h2 with q | ⟨e2, q⟩ | ⟨_, d', _, q, _⟩
      · cases q
      · omega
      · cases q
    · cases q
  tmp := trivial
  rm := fun _ _ _ _ => trivial
  sub := fun _ h => h
  trk := t
  pres := fun _ _ h _ _ => h
  tab := tb
  zs := rfl
  iok := fun j b h => by
    simp at h
    obtain ⟨rfl, rfl⟩ := h
    exact ⟨ha, start_get rfl, d0, rfl⟩
theorem fn_I {x qual : Str} {st : Stmt} {f : Addr} {fd : FuncData} {N ps : List Str} {k : Nat} {pm : PmI} (F : Fun K x qual st f fd) (S : FnScope N ps (defScope st)) (len : ∀ d0 ds Φ Ψ, pm d0 ds Φ Ψ → ds.length + 1 = ps.length) (hN : ps.length ≤ N.length)
    (hb : ∀ (cdv : Value) (A : Around) (outer : List Env) (s : Shared) (H : Hp) (E : XK), Room k (A.deeper (PyProof.Rows.envOfC qual (defScope st) s.heap.objs.size f cdv)) →
      ∃ t, PSs (cxOf (L2.CX P w) P w K mg base N qual (defScope st) f cdv A outer s H E) (defBody st) t ∧ ∀ d0 ds Φ Ψ, pm d0 ds Φ Ψ → Ws ⟨K, T, [0], E, Ψ, False⟩ t (slots1 N d0 ds) (rets1 Φ)) : FnOk P w K mg base (L2.CX P w) (k + 1) f fd ps (spI K T pm) := by
  refine F.okX S (fun vs H Q E h => ?_) fun cdv A outer s H vs Q E hr h => ?_
  · obtain ⟨_, a, ws, M, d0, ds, Φ, Ψ, e, _, _, _, i, p, _⟩ := h
    rw [e, List.length_cons, i.length]
    exact len _ _ _ _ p
  · obtain ⟨tb, a, ws, M, d0, ds, Φ, Ψ, e, ha, t, ob, i, p, q, qx⟩ := h
    subst e
    obtain ⟨tt, h1, h2⟩ := hb cdv A outer s H E hr
    have io : ∀ {b : Addr}, b ≠ a → ∀ j, (j, b) ∉ [((0 : Nat), a)] := fun n j z => by simp at z; exact n z.2
    have fin : ∀ {Γ : List Sl} {σ : L2.St} {M' : List Addr} {H' : Hp}, En K [0] ⟨H, M, [(0, a)], T⟩ M' H' σ Γ (fun _ => True) → ∃ d1, Γ[0]? = some (.ow d1) ∧ Ob K (Fz M H') H' a d1 := fun {Γ σ M' H'} E' => by
      obtain ⟨_, s1, d1, g1⟩ := E'.iok 0 a (by simp)
      obtain ⟨b, s2, _, _, ob'⟩ := E'.ow 0 d1 g1
      rw [s1] at s2
      cases s2
      exact ⟨d1, g1, ob'.mono (fun a u z => Fz.step z (fun _ q _ => q) fun m => Fz.nm z (E'.sub a m)) fun _ _ z => z⟩
    have eb : ∀ {σ : L2.St} {Γ : List Sl} {M' : List Addr} {H' : Hp}, En K [0] ⟨H, M, [(0, a)], T⟩ M' H' σ Γ (fun _ => True) → Eb T a H H' := fun E => ⟨fun b o nb hb n => E.pres b o hb (io nb) n, fun _ => E.tab⟩
    refine ⟨tt, h1, h2 d0 ds Φ Ψ p ⟨H, M, [(0, a)], T⟩ M H _ (fun _ => True) _ ⟨rfl, fun cls H' pc f tb' => qx cls H' pc ⟨fun b o nb hb n => f b o hb (io nb) n, fun _ => tb'⟩, False.elim⟩ (en_start1 ha t tb ob i (by rw [len _ _ _ _ p]; exact hN)) ⟨fun Γ σ M' H' p E => ?_, fun d Γ v σ M' H' p E iv => ?_, fun _ _ _ _ p _ => p.elim, fun _ _ _ _ p _ => p.elim⟩⟩
    · obtain ⟨d1, g1, ob'⟩ := fin E
      exact q .non .non d1 H' (p d1 g1) (eb E) ob' .non
    · obtain ⟨d1, g1, ob'⟩ := fin E
      exact q v d d1 H' (p d1 g1) (eb E) ob' (iv.mono fun a u z => Fz.step z (fun _ q _ => q) fun m => Fz.nm z (E.sub a m))
end
end DL
/-! DL5: fields stored, built-ins, texts, defs in short -/
namespace DL
open PySem L2 Evl
section
variable {c : Ct} {Γ : List Sl} {Φ : Dt → List Sl → Prop} {ΦT : Bool → List Sl → Prop} {ΦA : List Dt → List Sl → Prop} {Ψ : Out → Prop} {ta tb tc te tv : TE} {t u : TT} {tr : TA} {K : PySem.W.Frag} {P : Dt → Prop}

/-! ### an object of our own changed -/
theorem En.mut {zs : List Nat} {Z : Zn} {M : List Addr} {H : Hp} {σ : L2.St} {R : Hp → Prop} (E : En K zs Z M H σ Γ R) {i : Nat} {a : Addr} {d d' : Dt} {o o' : HO} (hi : Γ[i]? = some (.ow d)) (ha : σ[i]? = some (some (.ref a))) (ho : H a = some o) (po : plainO o) (po' : plainO o')
    (ob : Ob K (Fz M H) (upd H a o') a d') : En K zs Z M (upd H a o') σ (Γ.set i (.ow d')) R := by
  obtain ⟨a2, s2, aM, ac, _⟩ := E.ow i d hi
  rw [ha] at s2
  cases s2
  have hl : i < Γ.length := (List.getElem?_eq_some_iff.mp hi).1
  have eF : Fz M (upd H a o') = Fz M H := by
    funext b
    unfold Fz
    by_cases h : b ∈ M
    · rw [if_pos h, if_pos h]
    · rw [if_neg h, if_neg h, upd_ne (fun e => h (by rw [e]; exact aM))]
  refine ⟨by rw [List.length_set]; exact E.len, fun j e h => ?_, fun j e h => ?_, fun j l b d1 d2 n h1 h2 h3 h4 => ?_, by rw [eF]; exact E.tmp, E.rm, E.sub, fun b hb => ?_, fun b u h n t => ?_, tabs_upd ho po E.tab, E.zs, fun j b h => ?_⟩
  · rw [eF]
    by_cases hj : j = i
    · subst hj
      rw [List.getElem?_set_self hl] at h
      cases h
    · rw [List.getElem?_set_ne (Ne.symm hj)] at h
      exact E.im j e h
  · by_cases hj : j = i
    · subst hj
      rw [List.getElem?_set_self hl] at h
      cases h
      exact ⟨a, ha, aM, ac, by rw [eF]; exact ob⟩
    · rw [List.getElem?_set_ne (Ne.symm hj)] at h
      obtain ⟨b, h1, h2, h3, h4⟩ := E.ow j e h
      have nb : b ≠ a := fun e2 => by
        subst e2
        exact E.dis j i b e d hj h hi h1 ha
      exact ⟨b, h1, h2, h3, by rw [eF]; exact h4.mono (Ex.refl _) fun u _ q => by rw [upd_ne nb]; exact q⟩
  · have back : ∀ {m : Nat} {e : Dt}, (Γ.set i (.ow d'))[m]? = some (.ow e) → ∃ e', Γ[m]? = some (.ow e') := fun {m e} h => by
      by_cases hm : m = i
      · subst hm
        exact ⟨d, hi⟩
      · rw [List.getElem?_set_ne (Ne.symm hm)] at h
        exact ⟨e, h⟩
    obtain ⟨e1, g1⟩ := back h1
    obtain ⟨e2, g2⟩ := back h2
    exact E.dis j l b e1 e2 n g1 g2 h3 h4
  · by_cases e : b = a
    · rw [e]; exact ⟨o', upd_same, po'⟩
    · rw [upd_ne e]; exact E.trk b hb
  · have nb : b ≠ a := fun e => by
      subst e
      rcases ac with ⟨j, q⟩ | ⟨q, _⟩
      · exact n j q
      · exact q u t h
    rw [upd_ne nb]
    exact E.pres b u h n t
  · obtain ⟨a1, a3, e, a4⟩ := E.iok j b h
    refine ⟨a1, a3, ?_⟩
    by_cases hj : j = i
    · subst hj
      exact ⟨d', List.getElem?_set_self hl⟩
    · exact ⟨e, by rw [List.getElem?_set_ne (Ne.symm hj)]; exact a4⟩
def putN (f : Str) : List Str → List Str
  | [] => [f]
  | g :: r => if g = f then g :: r else g :: putN f r
def putW {α : Type} (f : Str) (v : α) : List Str → List α → List α
  | [], _ => [v]
  | g :: r, x :: xs => if g = f then v :: xs else x :: putW f v r xs
  | _ :: _, [] => []
theorem putF_zip {f : Str} {v : V} : ∀ {ns : List Str} {vs : List V}, ns.length = vs.length → putF f v (ns.zip vs) = (putN f ns).zip (putW f v ns vs)
  | [], [], _ => rfl
  | g :: r, x :: xs, h => by
    simp only [List.zip_cons_cons, putF, putN, putW]
    by_cases e : g = f
    · rw [if_pos e, if_pos e, if_pos e]
      rfl
    · rw [if_neg e, if_neg e, if_neg e, putF_zip (by simpa using h)]
      rfl
theorem put_len {f : Str} {α : Type} {v : α} : ∀ {ns : List Str} {vs : List α}, ns.length = vs.length → (putN f ns).length = (putW f v ns vs).length
  | [], [], _ => rfl
  | g :: r, x :: xs, h => by
    simp only [putN, putW]
    by_cases e : g = f
    · rw [if_pos e, if_pos e]
      simpa using h
    · rw [if_neg e, if_neg e, List.length_cons, List.length_cons, put_len (by simpa using h)]
theorem put_is {f : Str} {F : Hp} {v : V} {d : Dt} (i : Is K F v d) : ∀ {ns : List Str} {vs : List V} {ds : List Dt}, ns.length = vs.length → IsL K F vs ds → IsL K F (putW f v ns vs) (putW f d ns ds)
  | [], [], _, _, .nil => .cons i .nil
  | g :: r, x :: xs, _, h, .cons j t => by
    simp only [putW]
    by_cases e : g = f
    · rw [if_pos e, if_pos e]
      exact .cons i t
    · rw [if_neg e, if_neg e]
      exact .cons j (put_is i (by simpa using h) t)
/-- self.f = e, self an object of our own -/
theorem s_fldO {i : Nat} {f : Str} (h : Wp c tv Γ fun d Γ1 => ∃ C ns ds, Γ1[i]? = some (.ow (.ins C ns ds)) ∧ Cls c.K C ∧ NoAttr c.K C f ∧ ns.length < 1000 ∧ Ψ (.nx (Γ1.set i (.ow (.ins C (putN f ns) (putW f d ns ds)))))) : Ws c (sFld c.K (tVar i) tv f) Γ Ψ := fun Z M H σ R D O E G =>
  h Z M H σ R O E _ fun v d Γ1 M1 H1 ⟨C, ns, ds, g, hc, hn, hl, p⟩ E1 iv => by
    obtain ⟨a, h1, h2, h3, dx, vs, h4, h5, h6⟩ := E1.ow i _ g
    refine ⟨_, h1, a, C, dx, _, rfl, h4, hc, hn, by rw [List.length_zip, ← h5, Nat.min_self]; exact hl, ?_⟩
    rw [putF_zip h5]
    exact G.nx _ _ M1 _ p (E1.mut g h1 h4 plain_ins plain_ins ⟨dx, _, upd_same, put_len h5, put_is iv h5 h6⟩)
/-- an item of a list of our own -/
theorem rd_ixO {ds : List Dt} {i : Nat} {d : Dt} {k : Int} (h : Γ[i]? = some (.ow (.lst ds))) (hk : atI ds k = some d) (q : Φ d Γ) : Wp c (tOp (rIx c.K) (tVar i) (tC (.int k))) Γ Φ := fun Z M H σ R O E Q kk => by
  obtain ⟨a, h1, h2, h3, vs, h4, h5⟩ := E.ow i _ h
  obtain ⟨v, e1, e2⟩ := h5.atI hk
  exact ⟨_, h1, .inl ⟨a, vs, k, v, rfl, rfl, SqL.of h4, e1, kk v d Γ M H q E e2⟩⟩
/-- dice[k] = e -/
theorem g_setO {i : Nat} {k : Int} {j : Nat} {d : Dt} {ds : List Dt} {A : List Sl → Prop} (h : Γ[i]? = some (.ow (.lst ds))) (hk : ixN ds.length k = some j) (q : A (Γ.set i (.ow (.lst (ds.set j d))))) : Wg c (gSub (tVar i) (tC (.int k)) rSetL) d Γ A := fun Z M H σ R v O E iv Q kk => by
  obtain ⟨a, h1, h2, h3, vs, h4, h5⟩ := E.ow i _ h
  refine ⟨_, h1, a, vs, k, j, rfl, rfl, h4, by rw [h5.length]; exact hk, kk _ σ M _ q (E.mut h h1 h4 plain_lst plain_lst ⟨_, upd_same, h5.set j iv⟩)⟩

/-! ### built-ins -/
theorem rc_len {xs : List Dt} {n : Int} (h : P (.int n)) (e : (∃ ys, (xs = [.tup ys] ∨ xs = [.lst ys] ∨ xs = [.lsr ys]) ∧ n = (ys.length : Int)) ∨ ∃ x : Str, xs = [.str x] ∧ x.length ≤ sizeLine ∧ n = (x.length : Int)) : RC1 K (fun xs H Q => ∃ x n, xs = [x] ∧ LenV K x H n ∧ Q (.int n) H) xs P := fun M H vs t i Q q => by
  rcases e with ⟨ys, e, rfl⟩ | ⟨x, rfl, hl, rfl⟩
  · rcases e with rfl | rfl | rfl
    · cases i with
      | cons i1 i2 =>
        cases i2
        cases i1 with
        | tup h1 h2 => exact ⟨_, _, rfl, .inr ⟨_, sqT_fz h1, rfl⟩, by rw [h2.length]; exact q _ _ H h (Ex.refl H) .int⟩
    · cases i with
      | cons i1 i2 =>
        cases i2
        cases i1 with
        | lst h1 h2 => exact ⟨_, _, rfl, .inl ⟨_, SqL.of (Fz.lst h1), rfl⟩, by rw [h2.length]; exact q _ _ H h (Ex.refl H) .int⟩
    · cases i with
      | cons i1 i2 =>
        cases i2
        cases i1 with
        | lsr h1 h2 => exact ⟨_, _, rfl, .inl ⟨_, sqL_fz h1, rfl⟩, by rw [h2.length]; exact q _ _ H h (Ex.refl H) .int⟩
  · cases i with
    | cons i1 i2 =>
      cases i2
      cases i1
      exact ⟨_, _, rfl, ⟨hl, rfl⟩, q _ _ H h (Ex.refl H) .int⟩
theorem rc_lenT {ys : List Dt} (h : P (.int ys.length)) : RC1 K (fun xs H Q => ∃ x n, xs = [x] ∧ LenV K x H n ∧ Q (.int n) H) [.tup ys] P := rc_len h (.inl ⟨ys, .inl rfl, rfl⟩)
theorem rc_lenL {ys : List Dt} (h : P (.int ys.length)) : RC1 K (fun xs H Q => ∃ x n, xs = [x] ∧ LenV K x H n ∧ Q (.int n) H) [.lst ys] P := rc_len h (.inl ⟨ys, .inr (.inl rfl), rfl⟩)
theorem rc_lenS {x : Str} (hl : x.length ≤ sizeLine) (h : P (.int x.length)) : RC1 K (fun xs H Q => ∃ x n, xs = [x] ∧ LenV K x H n ∧ Q (.int n) H) [.str x] P := rc_len h (.inr ⟨x, rfl, hl, rfl⟩)
theorem rc_abs {i : Int} (h : P (.int (if i < 0 then -i else i))) : RC1 K (fun xs H Q => ∃ i, xs = [.int i] ∧ Q (.int (if i < 0 then -i else i)) H) [.int i] P := fun M H vs t i Q q => by
  cases i with
  | cons i1 i2 =>
    cases i2
    cases i1
    exact ⟨_, rfl, q _ _ H h (Ex.refl H) .int⟩
/-- int(x) -/
def rInt : List V → Hp → VK → Prop := fun xs H Q => ((∃ i, xs = [.int i] ∧ Q (.int i) H) ∨ ∃ k, xs = [.bl k] ∧ Q (.int (if k then 1 else 0)) H) ∨ ∃ a n, xs = [.str a] ∧ PySem.intText? a = some n ∧ a.length ≤ 640 ∧ Q (.int n) H
theorem call_intX {X : Cx} : CallR X (.type "int") rInt := call_int1.or call_int_str
theorem rc_intI {i : Int} (h : P (.int i)) : RC1 K rInt [.int i] P := fun M H vs t i Q q => by
  cases i with
  | cons i1 i2 =>
    cases i2
    cases i1
    exact .inl (.inl ⟨_, rfl, q _ _ H h (Ex.refl H) .int⟩)
theorem rc_intB {b : Bool} (h : P (.int (if b then 1 else 0))) : RC1 K rInt [.bl b] P := fun M H vs t i Q q => by
  cases i with
  | cons i1 i2 =>
    cases i2
    cases i1
    exact .inl (.inr ⟨_, rfl, q _ _ H h (Ex.refl H) .int⟩)
theorem rc_intS {x : Str} {n : Int} (e : PySem.intText? x = some n) (hl : x.length ≤ 640) (h : P (.int n)) : RC1 K rInt [.str x] P := fun M H vs t i Q q => by
  cases i with
  | cons i1 i2 =>
    cases i2
    cases i1
    exact .inr ⟨_, n, rfl, e, hl, q _ _ H h (Ex.refl H) .int⟩
def rStrI : List V → Hp → VK → Prop := fun xs H Q => ∃ i, xs = [.int i] ∧ i.natAbs.log2 < 1920 ∧ Q (.str (toString i)) H
theorem call_strX {X : Cx} : CallR X (.type "str") rStrI := call_str_int
theorem rc_strI {i : Int} (hl : i.natAbs.log2 < 1920) (h : P (.str (toString i))) : RC1 K rStrI [.int i] P := fun M H vs t i Q q => by
  cases i with
  | cons i1 i2 =>
    cases i2
    cases i1
    exact ⟨_, rfl, hl, q _ _ H h (Ex.refl H) .str⟩
def rTup (K : PySem.W.Frag) : List V → Hp → VK → Prop := fun xs H Q => ∃ p ys, xs = [.ref p] ∧ ((SqL K H p ys ∧ ∀ l, H l = none → Q (.ref l) (upd H l (.tup ys))) ∨ (SqT K H p ys ∧ Q (.ref p) H))
theorem call_tupX {X : Cx} : CallR X (.type "tuple") (rTup X.K) := call_tuple_of
theorem rc_tupT {ys : List Dt} (h : P (.tup ys)) : RC1 K (rTup K) [.tup ys] P := fun M H vs t i Q q => by
  cases i with
  | cons i1 i2 =>
    cases i2
    cases id i1 with
    | tup h1 h2 => exact ⟨_, _, rfl, .inr ⟨sqT_fz h1, q _ _ H h (Ex.refl H) i1⟩⟩
theorem rc_tupL {ys : List Dt} (h : P (.tup ys)) : RC1 K (rTup K) [.lst ys] P := fun M H vs t i Q q => by
  cases i with
  | cons i1 i2 =>
    cases i2
    cases i1 with
    | lst h1 h2 => exact ⟨_, _, rfl, .inl ⟨SqL.of (Fz.lst h1), fun l hl => q _ _ _ h (Ex.new hl) (.tup (.inl (.inl (new_fz t hl))) (h2.mono (ex_fz (Ex.new hl))))⟩⟩
theorem rc_tupR {ys : List Dt} (h : P (.tup ys)) : RC1 K (rTup K) [.lsr ys] P := fun M H vs t i Q q => by
  cases i with
  | cons i1 i2 =>
    cases i2
    cases i1 with
    | lsr h1 h2 => exact ⟨_, _, rfl, .inl ⟨sqL_fz h1, fun l hl => q _ _ _ h (Ex.new hl) (.tup (.inl (.inl (new_fz t hl))) (h2.mono (ex_fz (Ex.new hl))))⟩⟩
/-- isinstance(x, int) -/
theorem w_isiInt (h : Wp c te Γ fun x Γ1 => ∃ i, x = .int i ∧ Φ (.bl true) Γ1) : Wp c (tCB (rIsi c.K) (tCons te (tCons (tC (.ty "int")) tNil))) Γ Φ := fun Z M H σ R O E Q k =>
  h Z M H σ R O E _ fun v x Γ1 M1 H1 ⟨i, e, p⟩ E1 iv => by
    subst e
    cases iv
    exact ⟨_, _, .type "int", .type "int", true, rfl, ClsV.ty "int", .base (.int _), kit_ty (by decide +kernel), k _ _ Γ1 M1 H1 p E1 .bl⟩

/-! ### methods of texts -/
def RM (K : PySem.W.Frag) (r : V → List V → Hp → VK → Prop) (x : Dt) (xs : List Dt) (P : Dt → Prop) : Prop :=
  ∀ M H v vs, Trk M H → Is K (Fz M H) v x → IsL K (Fz M H) vs xs → ∀ Q : VK, (∀ z d H', P d → Ex H H' → Is K (Fz M H') z d → Q z H') → r v vs H Q
theorem w_m1 {r : V → List V → Hp → VK → Prop} (h : Wp c ta Γ fun x Γ1 => ∃ s, x = .str s ∧ Wp c te Γ1 fun y Γ2 => RM c.K r (.str s) [y] fun z => Φ z Γ2) : Wp c (tM1 r ta te) Γ Φ := fun Z M H σ R O E Q k =>
  h Z M H σ R O E _ fun v x Γ1 M1 H1 ⟨s, e, h1⟩ E1 i1 => by
    subst e
    cases i1
    exact ⟨⟨s, rfl⟩, h1 Z M1 H1 σ R O E1 _ fun w y Γ2 M2 H2 h2 E2 iy => h2 M2 H2 (.str s) [w] E2.trk .str (.cons iy .nil) Q fun z d H' p e i => k z d Γ2 M2 H' p (E2.ext e) i⟩
theorem w_m0 {r : V → List V → Hp → VK → Prop} (h : Wp c ta Γ fun x Γ1 => ∃ s, x = .str s ∧ RM c.K r (.str s) [] fun z => Φ z Γ1) : Wp c (tM0 r ta) Γ Φ := fun Z M H σ R O E Q k =>
  h Z M H σ R O E _ fun v x Γ1 M1 H1 ⟨s, e, h1⟩ E1 i1 => by
    subst e
    cases i1
    exact ⟨⟨s, rfl⟩, h1 M1 H1 (.str s) [] E1.trk .str .nil Q fun z d H' p e i => k z d Γ1 M1 H' p (E1.ext e) i⟩
theorem strs_of {F : Hp} : ∀ {ys : List Str} {vs : List V}, IsL K F vs (ys.map Dt.str) → vs = ys.map V.str
  | [], _, .nil => rfl
  | y :: r, _, .cons h t => by
    cases h
    rw [strs_of t] <;> rfl
theorem rm_join {s : Str} {ys : List Str} (hl : (ys.map (·.length)).sum + ys.length * s.length ≤ 16777216) (h : P (.str (Txt.join s ys))) : RM K (fun x xs H Q => ∃ a p, ∃ ys : List Str, x = .str a ∧ xs = [.ref p] ∧ (SqL K H p (ys.map V.str) ∨ SqT K H p (ys.map V.str)) ∧
      (ys.map (·.length)).sum + ys.length * a.length ≤ 16777216 ∧ Q (.str (Txt.join a ys)) H) (.str s) [.lst (ys.map Dt.str)] P := fun M H v vs t iv i Q q => by
  cases iv
  cases i with
  | cons i1 i2 =>
    cases i2
    cases i1 with
    | lst h1 h2 =>
      have e := strs_of h2
      subst e
      exact ⟨s, _, ys, rfl, rfl, .inl (SqL.of (Fz.lst h1)), hl, q _ _ H h (Ex.refl H) .str⟩
theorem rm_part {s b : Str} (hb : (b.length == 0) = false) (hl : s.length ≤ sizeLine) (h : P (.tup [.str (Txt.partition s b).1, .str (Txt.partition s b).2.1, .str (Txt.partition s b).2.2])) :
    RM K (fun x xs H Q => ∃ a b, x = .str a ∧ xs = [.str b] ∧ (b.length == 0) = false ∧ a.length ≤ sizeLine ∧
      ∀ p, H p = none → Q (.ref p) (upd H p (.tup [.str (Txt.partition a b).1, .str (Txt.partition a b).2.1, .str (Txt.partition a b).2.2]))) (.str s) [.str b] P := fun M H v vs t iv i Q q => by
  cases iv
  cases i with
  | cons i1 i2 =>
    cases i2
    cases i1
    exact ⟨s, b, rfl, rfl, hb, hl, fun p hp => q _ _ _ h (Ex.new hp) (.tup (.inl (.inl (new_fz t hp))) (.cons .str (.cons .str (.cons .str .nil))))⟩
theorem rm_strip {s b : Str} (hl : s.length ≤ sizeLine) (h : P (.str (Txt.stripChars s b))) : RM K (fun x xs H Q => ∃ a b, x = .str a ∧ xs = [.str b] ∧ a.length ≤ sizeLine ∧ Q (.str (Txt.stripChars a b)) H) (.str s) [.str b] P := fun M H v vs t iv i Q q => by
  cases iv
  cases i with
  | cons i1 i2 =>
    cases i2
    cases i1
    exact ⟨s, b, rfl, rfl, hl, q _ _ H h (Ex.refl H) .str⟩
theorem rm_ss {g : Str → Str → V} {gd : Str → Str → Dt} {s b : Str} (e : ∀ F, Is K F (g s b) (gd s b)) (h : P (gd s b)) : RM K (fun x xs H Q => ∃ a b, x = .str a ∧ xs = [.str b] ∧ Q (g a b) H) (.str s) [.str b] P := fun M H v vs t iv i Q q => by
  cases iv
  cases i with
  | cons i1 i2 =>
    cases i2
    cases i1
    exact ⟨s, b, rfl, rfl, q _ _ H h (Ex.refl H) (e _)⟩
/-- f'..' -/
theorem w_fmtS (h : Wp c te Γ fun x Γ1 => ∃ y : Str, x = .str y ∧ y.length ≤ sizeLine ∧ Φ (.str y) Γ1) : Wp c (tFmt te) Γ Φ := fun Z M H σ R O E Q k =>
  h Z M H σ R O E _ fun v x Γ1 M1 H1 ⟨y, e, hl, p⟩ E1 i1 => by
    subst e
    cases i1
    exact .inl ⟨y, rfl, hl, k _ _ Γ1 M1 H1 p E1 .str⟩
theorem w_fmtI (h : Wp c te Γ fun x Γ1 => ∃ i : Int, x = .int i ∧ i.natAbs.log2 < 1920 ∧ Φ (.str (toString i)) Γ1) : Wp c (tFmt te) Γ Φ := fun Z M H σ R O E Q k =>
  h Z M H σ R O E _ fun v x Γ1 M1 H1 ⟨i, e, hl, p⟩ E1 i1 => by
    subst e
    cases i1
    exact .inr ⟨i, rfl, hl, k _ _ Γ1 M1 H1 p E1 .str⟩
def Wj (c : Ct) (ts : List TE) (acc : Str) (Γ : List Sl) (Φ : Str → List Sl → Prop) : Prop :=
  ∀ Z M H σ R, c.Ok Z → En c.K c.zs Z M H σ Γ R → ∀ Q : Str → Hp → Prop, (∀ s Γ' M' H', Φ s Γ' → En c.K c.zs Z M' H' σ Γ' R → Q s H') → tJs ts acc σ H Q
theorem j_nil {acc : Str} {A : Str → List Sl → Prop} (q : A acc Γ) : Wj c [] acc Γ A := fun Z M H σ R O E Q k => k acc Γ M H q E
theorem j_cons {ts : List TE} {acc : Str} {A : Str → List Sl → Prop} (h : Wp c te Γ fun x Γ1 => ∃ y : Str, x = .str y ∧ (acc ++ y).length ≤ sizeLine ∧ Wj c ts (acc ++ y) Γ1 A) : Wj c (te :: ts) acc Γ A := fun Z M H σ R O E Q k =>
  h Z M H σ R O E _ fun v x Γ1 M1 H1 ⟨y, e, hl, p⟩ E1 i1 => by
    subst e
    cases i1
    exact ⟨y, rfl, hl, p Z M1 H1 σ R O E1 Q k⟩
theorem w_joined {ts : List TE} (h : Wj c ts Str.empty Γ fun s Γ1 => Φ (.str s) Γ1) : Wp c (fun σ H Q => tJs ts Str.empty σ H fun out H1 => Q (.str out) H1) Γ Φ := fun Z M H σ R O E Q k =>
  h Z M H σ R O E _ fun s Γ1 M1 H1 p E1 => k _ _ Γ1 M1 H1 p E1 .str
end

/-! ### defs in short -/
section
variable {P : Program} {w : World} {K : PySem.W.Frag} {T : TbT} {mg : Str → Option Value} {base : Heap}
abbrev CXx (P : Program) (w : World) : CXT := L2.CX P w
theorem fnd_D {x qual : Str} {st : Stmt} {f : Addr} {fd : FuncData} {dvs : List V} {N ps : List Str} {k : Nat} {pm : Pm} (F : FunD K x qual (defArgs st) (defBody st) (defScope st) dvs [] f fd) (S : FnScope N ps (defScope st)) (len : ∀ ds Φ Ψ, pm ds Φ Ψ → ds.length = ps.length)
    (hb : ∀ (cdv : Value) (A : Around) (outer : List Env) (s : Shared) (H : Hp) (E : XK), Room k (A.deeper (PyProof.Rows.envOfC qual (defScope st) s.heap.objs.size f cdv)) →
      ∃ t, PSs (cxOf (L2.CX P w) P w K mg base N qual (defScope st) f cdv A outer s H E) (defBody st) t ∧ ∀ ds Φ Ψ, pm ds Φ Ψ → Ws ⟨K, T, [], E, Ψ, False⟩ t (slots0 N ds) (rets Φ)) : FnOk P w K mg base (L2.CX P w) (k + 1) f fd ps (spD K T pm) := by
  refine F.ok S (fun vs H Q E h => ?_) fun cdv A outer s H vs Q E hr h => ?_
  · obtain ⟨_, M, ds, Φ, Ψ, _, i, p, _⟩ := h
    rw [i.length]
    exact len _ _ _ p
  · obtain ⟨tb, M, ds, Φ, Ψ, t, i, p, q, qx⟩ := h
    obtain ⟨tt, h1, h2⟩ := hb cdv A outer s H E hr
    refine ⟨tt, h1, h2 ds Φ Ψ p ⟨H, M, [], T⟩ M H _ (fun _ => True) _ ⟨rfl, fun cls H' pc f tb' => qx cls H' pc ⟨fun a o ha n => f a o ha (fun j => by simp) n, fun _ => tb'⟩, False.elim⟩ (en_start t tb i) ⟨fun Γ σ M' H' p E => ?_, fun d Γ v σ M' H' p E iv => ?_, fun _ _ _ _ p _ => p.elim, fun _ _ _ _ p _ => p.elim⟩⟩
    · exact q .non .non H' p ⟨fun a o ha n => E.pres a o ha (fun j => by simp) n, fun _ => E.tab⟩ .non
    · exact q v d H' p ⟨fun a o ha n => E.pres a o ha (fun j => by simp) n, fun _ => E.tab⟩ (iv.mono fun a u z => Fz.step z (fun _ q _ => q) fun m => Fz.nm z (E.sub a m))
theorem fnd_I {x qual : Str} {st : Stmt} {f : Addr} {fd : FuncData} {dvs : List V} {N ps : List Str} {k : Nat} {pm : PmI} (F : FunD K x qual (defArgs st) (defBody st) (defScope st) dvs [] f fd) (S : FnScope N ps (defScope st)) (len : ∀ d0 ds Φ Ψ, pm d0 ds Φ Ψ → ds.length + 1 = ps.length) (hN : ps.length ≤ N.length)
    (hb : ∀ (cdv : Value) (A : Around) (outer : List Env) (s : Shared) (H : Hp) (E : XK), Room k (A.deeper (PyProof.Rows.envOfC qual (defScope st) s.heap.objs.size f cdv)) →
      ∃ t, PSs (cxOf (L2.CX P w) P w K mg base N qual (defScope st) f cdv A outer s H E) (defBody st) t ∧ ∀ d0 ds Φ Ψ, pm d0 ds Φ Ψ → Ws ⟨K, T, [0], E, Ψ, False⟩ t (slots1 N d0 ds) (rets1 Φ)) : FnOk P w K mg base (L2.CX P w) (k + 1) f fd ps (spI K T pm) := by
  refine F.ok S (fun vs H Q E h => ?_) fun cdv A outer s H vs Q E hr h => ?_
  · obtain ⟨_, a, ws, M, d0, ds, Φ, Ψ, e, _, _, _, i, p, _⟩ := h
    rw [e, List.length_cons, i.length]
    exact len _ _ _ _ p
  · obtain ⟨tb, a, ws, M, d0, ds, Φ, Ψ, e, ha, t, ob, i, p, q, qx⟩ := h
    subst e
    obtain ⟨tt, h1, h2⟩ := hb cdv A outer s H E hr
    have io : ∀ {b : Addr}, b ≠ a → ∀ j, (j, b) ∉ [((0 : Nat), a)] := fun n j z => by simp at z; exact n z.2
    have fin : ∀ {Γ : List Sl} {σ : L2.St} {M' : List Addr} {H' : Hp}, En K [0] ⟨H, M, [(0, a)], T⟩ M' H' σ Γ (fun _ => True) → ∃ d1, Γ[0]? = some (.ow d1) ∧ Ob K (Fz M H') H' a d1 := fun {Γ σ M' H'} E' => by
      obtain ⟨_, s1, d1, g1⟩ := E'.iok 0 a (by simp)
      obtain ⟨b, s2, _, _, ob'⟩ := E'.ow 0 d1 g1
      rw [s1] at s2
      cases s2
      exact ⟨d1, g1, ob'.mono (fun a u z => Fz.step z (fun _ q _ => q) fun m => Fz.nm z (E'.sub a m)) fun _ _ z => z⟩
    have eb : ∀ {σ : L2.St} {Γ : List Sl} {M' : List Addr} {H' : Hp}, En K [0] ⟨H, M, [(0, a)], T⟩ M' H' σ Γ (fun _ => True) → Eb T a H H' := fun E => ⟨fun b o nb hb n => E.pres b o hb (io nb) n, fun _ => E.tab⟩
    refine ⟨tt, h1, h2 d0 ds Φ Ψ p ⟨H, M, [(0, a)], T⟩ M H _ (fun _ => True) _ ⟨rfl, fun cls H' pc f tb' => qx cls H' pc ⟨fun b o nb hb n => f b o hb (io nb) n, fun _ => tb'⟩, False.elim⟩ (en_start1 ha t tb ob i (by rw [len _ _ _ _ p]; exact hN)) ⟨fun Γ σ M' H' p E => ?_, fun d Γ v σ M' H' p E iv => ?_, fun _ _ _ _ p _ => p.elim, fun _ _ _ _ p _ => p.elim⟩⟩
    · obtain ⟨d1, g1, ob'⟩ := fin E
      exact q .non .non d1 H' (p d1 g1) (eb E) ob' .non
    · obtain ⟨d1, g1, ob'⟩ := fin E
      exact q v d d1 H' (p d1 g1) (eb E) ob' (iv.mono fun a u z => Fz.step z (fun _ q _ => q) fun m => Fz.nm z (E.sub a m))
/-- a def as its callers see it: dvs its defaults -/
structure Fd (P : Program) (w : World) (K : PySem.W.Frag) (mg : Str → Option Value) (base : Heap) (x : Str) (ps : List Str) (dvs : List V) (k : Nat) (sp : Sp) : Prop where
  ex : ∃ f fd, FnOk P w K mg base (L2.CX P w) k f fd ps sp ∧ mg x = some (.ref f) ∧ PySem.W.keepIn K (.ref f) = true ∧ ∀ j, j ≤ dvs.length → ∃ ds, Vals (dvs.drop j) ds ∧ Binds K fd ps ds
/-- a method m of the class at C -/
structure Md (P : Program) (w : World) (K : PySem.W.Frag) (mg : Str → Option Value) (base : Heap) (C : Addr) (m : Str) (ps : List Str) (dvs : List V) (k : Nat) (sp : Sp) : Prop where
  cl : Cls K C
  ex : ∃ f fd, FnOk P w K mg base (L2.CX P w) k f fd ps sp ∧ Meth K C m f ∧ ∀ j, j ≤ dvs.length → ∃ ds, Vals (dvs.drop j) ds ∧ Binds K fd ps ds
/-- the class at C, named x, its __init__ -/
structure Cd (P : Program) (w : World) (K : PySem.W.Frag) (mg : Str → Option Value) (base : Heap) (C : Addr) (x : Str) (ps : List Str) (dvs : List V) (k : Nat) (sp : Sp) : Prop where
  ex : ∃ f fd, FnOk P w K mg base (L2.CX P w) k f fd ps sp ∧ Mk K C f ∧ mg x = some (.ref C) ∧ ∀ j, j ≤ dvs.length → ∃ ds, Vals (dvs.drop j) ds ∧ Binds K fd ps ds
end
section
variable {X : Cx} {x m : Str} {C : Addr} {ps : List Str} {dvs : List V} {k : Nat} {sp : Sp} {E : XK} {e o : Expr} {es : List Expr} {ta : TE} {t : TA} {p pos apos : Pos}
theorem pe_fn (j : Nat) (F : Fd X.prog X.w X.K X.mg X.base x ps dvs k sp) (hj : j ≤ dvs.length) (hr : Room k X.A) (hg : Gl X x) (hx : Passes (L2.CX X.prog X.w) X E)
    (ha : PA X (e :: es) t) (hdb : (x == ("__debug__" : Str)) = false := by decide) (he : starEach (e :: es) X.env = (false, eval e X.env) :: starEach es X.env := by rfl) (hpl : (backTo pos (starEach es X.env)).any (·.1) = false := by rfl) :
    PE X (.Call (.Name x p) (e :: es) [] pos) (tCall sp (dvs.drop j) E t) := by
  obtain ⟨f, fd, G, hm, hk, hb⟩ := F.ex
  obtain ⟨ds, hv, hb⟩ := hb j hj
  exact pe_call G hr hg hm hk hb hv hx ha hdb he hpl
theorem pe_fn0 (F : Fd X.prog X.w X.K X.mg X.base x ps dvs k sp) (hr : Room k X.A) (hg : Gl X x) (hx : Passes (L2.CX X.prog X.w) X E) (hdb : (x == ("__debug__" : Str)) = false := by decide) : PE X (.Call (.Name x p) [] [] pos) (tCall sp (dvs.drop 0) E tNil) := by
  obtain ⟨f, fd, G, hm, hk, hb⟩ := F.ex
  obtain ⟨ds, hv, hb⟩ := hb 0 (Nat.zero_le _)
  exact pe_call0 G hr hg hm hk hb hv hx hdb
theorem pe_md (j : Nat) {pl : Sem Bool} (F : Md X.prog X.w X.K X.mg X.base C m ps dvs k sp) (hj : j ≤ dvs.length) (he : PE X o ta) (hr : Room k X.A) (hx : Passes (L2.CX X.prog X.w) X E) (ha : PA X (e :: es) t)
    (hst : starEach (e :: es) X.env = (false, eval e X.env) :: starEach es X.env := by rfl) (hpl : (backTo pos (starEach es X.env)).any (·.1) = false := by rfl)
    (ht : eval (.Call (.Attribute o m apos) (e :: es) [] pos) X.env = (do
      let ov ← eval o X.env
      standAt apos.atName
      let (f, first) ← holding [ov] (getMethod ov m pl)
      callWith pos f first (backTo pos (starEach (e :: es) X.env)) (backToKw pos (keywordEach [] X.env))) := by rfl) :
    PE X (.Call (.Attribute o m apos) (e :: es) [] pos) (tMeth C m sp (dvs.drop j) E ta t) := by
  obtain ⟨f, fd, G, hm, hb⟩ := F.ex
  obtain ⟨ds, hv, hb⟩ := hb j hj
  exact pe_meth he F.cl hm G hr hb hv hx ha hst hpl ht
theorem pe_md0 {pl : Sem Bool} (F : Md X.prog X.w X.K X.mg X.base C m ps dvs k sp) (he : PE X o ta) (hr : Room k X.A) (hx : Passes (L2.CX X.prog X.w) X E)
    (ht : eval (.Call (.Attribute o m apos) [] [] pos) X.env = (do
      let ov ← eval o X.env
      standAt apos.atName
      let (f, first) ← holding [ov] (getMethod ov m pl)
      callWith pos f first (backTo pos (starEach [] X.env)) (backToKw pos (keywordEach [] X.env))) := by rfl) :
    PE X (.Call (.Attribute o m apos) [] [] pos) (tMeth C m sp (dvs.drop 0) E ta tNil) := by
  obtain ⟨f, fd, G, hm, hb⟩ := F.ex
  obtain ⟨ds, hv, hb⟩ := hb 0 (Nat.zero_le _)
  exact pe_meth0 he F.cl hm G hr hb hv hx ht
theorem pe_cd (j : Nat) (F : Cd X.prog X.w X.K X.mg X.base C x ps dvs k sp) (hj : j ≤ dvs.length) (hr : Room (k + 1) X.A) (hg : Gl X x) (hx : Passes (L2.CX X.prog X.w) X E)
    (ha : PA X (e :: es) t) (hdb : (x == ("__debug__" : Str)) = false := by decide) (he : starEach (e :: es) X.env = (false, eval e X.env) :: starEach es X.env := by rfl) (hpl : (backTo pos (starEach es X.env)).any (·.1) = false := by rfl) :
    PE X (.Call (.Name x p) (e :: es) [] pos) (tMake C sp (dvs.drop j) E t) := by
  obtain ⟨f, fd, G, M, hm, hb⟩ := F.ex
  obtain ⟨ds, hv, hb⟩ := hb j hj
  exact pe_make M G hr hg hm hb hv hx ha hdb he hpl
theorem pe_cd0 (F : Cd X.prog X.w X.K X.mg X.base C x ps dvs k sp) (hr : Room (k + 1) X.A) (hg : Gl X x) (hx : Passes (L2.CX X.prog X.w) X E) (hdb : (x == ("__debug__" : Str)) = false := by decide) :
    PE X (.Call (.Name x p) [] [] pos) (tMake C sp (dvs.drop 0) E tNil) := by
  obtain ⟨f, fd, G, M, hm, hb⟩ := F.ex
  obtain ⟨ds, hv, hb⟩ := hb 0 (Nat.zero_le _)
  exact pe_make0 M G hr hg hm hb hv hx hdb
/-- two ways to read one expression -/
theorem PE.or {e : Expr} {ta tb : TE} (h : PE X e ta) (h' : PE X e tb) : PE X e (fun σ H Q => ta σ H Q ∨ tb σ H Q) := ⟨fun pins s σ H Q I q => by
  rcases q with q | q
  · exact h.run pins s σ H Q I q
  · exact h'.run pins s σ H Q I q⟩
theorem PI.or {tg iter : Expr} {wi wj : TI} (h : PI X tg iter wi) (h' : PI X tg iter wj) : PI X tg iter (fun σ H R => wi σ H R ∨ wj σ H R) := ⟨fun pins s σ H Q I q => by
  rcases q with q | q
  · exact h.run pins s σ H Q I q
  · exact h'.run pins s σ H Q I q⟩
end
section
variable {c : Ct} {Γ : List Sl} {ΦA : List Dt → List Sl → Prop} {wi wj : TI}
theorem i_l (h : Wi c wi Γ ΦA) : Wi c (fun σ H R => wi σ H R ∨ wj σ H R) Γ ΦA := fun Z M H σ R O E Q k => .inl (h Z M H σ R O E Q k)
theorem i_r (h : Wi c wj Γ ΦA) : Wi c (fun σ H R => wi σ H R ∨ wj σ H R) Γ ΦA := fun Z M H σ R O E Q k => .inr (h Z M H σ R O E Q k)
/-- an own exception class -/
structure Xc (K : PySem.W.Frag) (mg : Str → Option Value) (x : Str) (C : Addr) : Prop where
  q : PySem.W.excIn K C [.type "ValueError", .type "Exception", .type "BaseException", .type "object"] "ValueError.__new__" = true
  g : mg x = some (.ref C)
  k : PySem.W.keepIn K (.ref C) = true
  b : PySem.W.subIn K (.ref C) (.type "BaseException") = some true
  t : PySem.W.typeIn K (.ref C) = some (.type "type")
end
section
variable {X : Cx} {x m : Str} {C : Addr} {W : WX} {j : Nat} {p p2 pos rpos : Pos}
theorem ps_rz (F : Xc X.K X.mg x C) (hc : X.calm = true) (tk : Takes X W) (hg : Gl X x) (hdb : (x == ("__debug__" : Str)) = false := by decide) :
    PS X (.Raise (some (.Call (.Name x p) [.Constant (.str m) j p2] [] pos)) none rpos) (fun _ σ H => W (.ref C) none σ H) :=
  ps_raise hc tk (pmk_own PySem.F.excBase_ValueError F.q F.g F.k (raises_own F.b F.t) hg hdb)
end
end DL
/-! DL6: names for readings, steps by heads -/
namespace DL
open PySem L2 Evl
theorem cxOf_K {CX : CXT} {P : Program} {w : World} {K : PySem.W.Frag} {mg : Str → Option Value} {base : Heap} {N : List Str} {q : Str} {sc : Scope} {f : Addr} {cd : Value} {A : Around} {outer : List Env} {s : Shared} {H : Hp} {E : XK} : (cxOf CX P w K mg base N q sc f cd A outer s H E).K = K := rfl
def rLen (K : PySem.W.Frag) : List V → Hp → VK → Prop := fun xs H Q => ∃ x n, xs = [x] ∧ LenV K x H n ∧ Q (.int n) H
theorem call_lenX {X : Cx} : CallR X (.builtin "len") (rLen X.K) := call_len
def rAbs : List V → Hp → VK → Prop := fun xs H Q => ∃ i, xs = [.int i] ∧ Q (.int (if i < 0 then -i else i)) H
theorem call_absX {X : Cx} : CallR X (.builtin "abs") rAbs := call_abs
def rLt : R2 := rI0 fun i j => .bl (decide (i < j))
def rLe : R2 := rI0 fun i j => .bl (decide (i ≤ j))
def rGt : R2 := rI0 fun i j => .bl (decide (j < i))
def rGe : R2 := rI0 fun i j => .bl (decide (j ≤ i))
def rSubI : R2 := rI0 fun i j => .int (i - j)
def rModI : R2 := rI (fun _ j => 0 < j) fun i j => .int (i % j)
def rDivI : R2 := rI CDiv fun i j => .int (i / j)
def rMulI : R2 := rI CMul fun i j => .int (i * j)
def rPowI : R2 := rI CPow fun i j => .int (i ^ j.toNat)
def rNegI : V → Hp → VK → Prop := rU fun i => .int (-i)
section
variable {X : Cx}
theorem op_ltX : OpR X (compareOp .Lt) DL.rLt := op_lt
theorem op_leX : OpR X (compareOp .LtE) DL.rLe := op_le
theorem op_gtX : OpR X (compareOp .Gt) DL.rGt := op_gt
theorem op_geX : OpR X (compareOp .GtE) DL.rGe := op_ge
theorem op_subX : OpR X (binaryOp .Sub) rSubI := op_sub
theorem op_modX : OpR X (binaryOp .Mod) rModI := op_mod
theorem op_fdivX : OpR X (binaryOp .FloorDiv) rDivI := op_fdiv
theorem op_mulX : OpR X (binaryOp .Mult) rMulI := op_mul
theorem op_powX : OpR X (binaryOp .Pow) rPowI := op_pow
theorem un_negX : UnR X (unaryOp .USub) rNegI := un_neg
end
section
variable {c : Ct} {Γ : List Sl} {Φ : Dt → List Sl → Prop} {Ψ : Out → Prop} {K : PySem.W.Frag} {P : Dt → Prop} {i j : Int}
theorem rd_lt (h : P (.bl (decide (i < j)))) : RD K DL.rLt (.int i) (.int j) P := rd_I0b h
theorem rd_le (h : P (.bl (decide (i ≤ j)))) : RD K DL.rLe (.int i) (.int j) P := rd_I0b h
theorem rd_gt (h : P (.bl (decide (j < i)))) : RD K DL.rGt (.int i) (.int j) P := rd_I0b (g := fun i j => decide (j < i)) h
theorem rd_ge (h : P (.bl (decide (j ≤ i)))) : RD K DL.rGe (.int i) (.int j) P := rd_I0b (g := fun i j => decide (j ≤ i)) h
theorem rd_sub (h : P (.int (i - j))) : RD K rSubI (.int i) (.int j) P := rd_I0 h
theorem rd_mod (hc : 0 < j) (h : P (.int (i % j))) : RD K rModI (.int i) (.int j) P := rd_I hc h
theorem rd_div (hc : 0 < j ∧ j < 1073741824) (h : P (.int (i / j))) : RD K rDivI (.int i) (.int j) P := rd_I hc h
theorem rd_mul (hc : CMul i j) (h : P (.int (i * j))) : RD K rMulI (.int i) (.int j) P := rd_I hc h
theorem rd_pow (hc : CPow i j) (h : P (.int (i ^ j.toNat))) : RD K rPowI (.int i) (.int j) P := rd_I (g := fun i j => i ^ j.toNat) hc h
theorem ru_neg (h : P (.int (-i))) : RU1 K rNegI (.int i) P := fun M H v _ iv Q q => by
  cases iv
  exact ⟨i, rfl, q _ _ H h (Ex.refl H) .int⟩
theorem rx_lenT {ys : List Dt} (h : P (.int ys.length)) : RC1 K (rLen K) [.tup ys] P := rc_lenT h
theorem rx_lenL {ys : List Dt} (h : P (.int ys.length)) : RC1 K (rLen K) [.lst ys] P := rc_lenL h
theorem rx_lenS {x : Str} (hl : x.length ≤ sizeLine) (h : P (.int x.length)) : RC1 K (rLen K) [.str x] P := rc_lenS hl h
theorem rx_abs (h : P (.int (if i < 0 then -i else i))) : RC1 K rAbs [.int i] P := rc_abs h
theorem t_cmp {te : TE} {ΦT : Bool → List Sl → Prop} {r : R2} {ta tb : TE} (h : Wp c ta Γ fun x Γ1 => Wp c tb Γ1 fun y Γ2 => RD c.K r x y fun z => ∃ b, z = .bl b ∧ ΦT b Γ2) : Wt c (tTest (tOp r ta tb)) Γ ΦT := t_test (w_op h)
theorem s_aug {k : Nat} {te : TE} {ti : TIp} {x : Dt} (hx : Γ[k]? = some (.im x)) (hk : k < Γ.length) (hz : k ∉ c.zs) (h : Wp c te Γ fun y Γ1 => Γ1[k]? = some (.im x) ∧ RD c.K ti x y fun z => Ψ (.nx (Γ1.set k (.im z)))) : Ws c (tAug k te ti) Γ Ψ := fun Z M H σ R D O E G => by
  obtain ⟨v, h1, h2⟩ := E.im k x hx
  refine ⟨v, h1, h Z M H σ _ O (E.push h2) _ fun w y Γ1 M1 H1 ⟨hx1, p⟩ E1 iy => ?_⟩
  obtain ⟨ix, E2⟩ := E1.pop E.rm
  exact p M1 H1 v w E1.trk ix iy _ fun z d H2 q e iz => G.nx _ _ M1 H2 q ((E2.ext e).set iz (by rw [← E1.len, E.len]; exact hk) hz)
theorem rd_ipadd (h : P (.int (i + j))) : RD K (ipI fun i j => i + j) (.int i) (.int j) P := fun M H v w _ iv iw Q q => by
  cases iv; cases iw
  exact ⟨i, j, rfl, rfl, q _ _ H h (Ex.refl H) .int⟩
theorem rd_ipsub (h : P (.int (i - j))) : RD K (ipI fun i j => i - j) (.int i) (.int j) P := fun M H v w _ iv iw Q q => by
  cases iv; cases iw
  exact ⟨i, j, rfl, rfl, q _ _ H h (Ex.refl H) .int⟩
theorem i_or {wi wj : TI} {A : List Dt → List Sl → Prop} (h : Wi c wi Γ A ∨ Wi c wj Γ A) : Wi c (fun σ H R => wi σ H R ∨ wj σ H R) Γ A := h.elim i_l i_r
end
def ipAdd : TIp := ipI fun i j => i + j
def ipSub : TIp := ipI fun i j => i - j
theorem ip_addX {X : Cx} : PIp X .Add ipAdd := ip_add
theorem ip_subX {X : Cx} : PIp X .Sub ipSub := ip_sub
theorem rd_ipa {K : PySem.W.Frag} {P : Dt → Prop} {i j : Int} (h : P (.int (i + j))) : RD K ipAdd (.int i) (.int j) P := rd_ipadd h
theorem rd_ips {K : PySem.W.Frag} {P : Dt → Prop} {i j : Int} (h : P (.int (i - j))) : RD K ipSub (.int i) (.int j) P := rd_ipsub h
/-- a disjunction of two walks -/
def iOr (wi wj : TI) : TI := fun σ H R => wi σ H R ∨ wj σ H R
theorem pi_or {X : Cx} {tg iter : Expr} {wi wj : TI} (h : PI X tg iter wi) (h' : PI X tg iter wj) : PI X tg iter (iOr wi wj) := PI.or h h'
theorem ix_l {c : Ct} {Γ : List Sl} {A : List Dt → List Sl → Prop} {wi wj : TI} (h : Wi c wi Γ A) : Wi c (iOr wi wj) Γ A := i_l h
theorem ix_r {c : Ct} {Γ : List Sl} {A : List Dt → List Sl → Prop} {wi wj : TI} (h : Wi c wj Γ A) : Wi c (iOr wi wj) Γ A := i_r h
end DL
namespace DL
open PySem L2 Evl
section
variable {c : Ct} {Γ : List Sl} {Φ : Dt → List Sl → Prop} {Ψ : Out → Prop}
theorem g_nm {i : Nat} {d : Dt} {A : List Sl → Prop} (hi : (Γ[i]?).isSome = true) (hz : c.zs.contains i = false) (q : A (Γ.set i (.im d))) : Wg c (gName i) d Γ A :=
  g_name (by
    cases e : Γ[i]? with
    | none => rw [e] at hi; cases hi
    | some x => exact (List.getElem?_eq_some_iff.mp e).1) (by
    intro h
    rw [List.contains_iff_mem.mpr h] at hz
    cases hz) q
theorem s_aug1 {k : Nat} {te : TE} {ti : TIp} {x : Dt} (hx : Γ[k]? = some (.im x)) (hz : c.zs.contains k = false) (h : Wp c te Γ fun y Γ1 => Γ1[k]? = some (.im x) ∧ RD c.K ti x y fun z => Ψ (.nx (Γ1.set k (.im z)))) : Ws c (tAug k te ti) Γ Ψ :=
  s_aug hx (List.getElem?_eq_some_iff.mp hx).1 (by
    intro h
    rw [List.contains_iff_mem.mpr h] at hz
    cases hz) h
theorem small {n : Nat} (h : n ≤ 100000) : n ≤ sizeLine := Nat.le_trans h (by decide)
theorem sl_nx {A : List Sl → Prop} {Γ : List Sl} (h : A Γ) : onx Ψ A (.nx Γ) := h
end

/-! ### a row that is a tuple or a list -/
def Sq (d : Dt) (xs : List Dt) : Prop := d = .tup xs ∨ d = .lst xs
section
variable {c : Ct} {Γ : List Sl} {Φ : Dt → List Sl → Prop} {Ψ : Out → Prop} {K : PySem.W.Frag} {P : Dt → Prop} {i j : Int} {d : Dt} {xs : List Dt}
theorem rx_lenQ (s : Sq d xs) (h : P (.int xs.length)) : RC1 K (rLen K) [d] P := by
  rcases s with rfl | rfl
  · exact rx_lenT h
  · exact rx_lenL h
theorem rd_ixQ {e : Dt} (s : Sq d xs) (a : atI xs i = some e) (h : P e) : RD K (rIx K) d (.int i) P := by
  rcases s with rfl | rfl
  · exact rd_ixT a h
  · exact rd_ixL a h
theorem rs_Q {lo hi : Option Int} (s : Sq d xs) (h : ∀ d', Sq d' (cut xs lo hi) → P d') : RS K (rSlX K) d lo hi P := by
  rcases s with rfl | rfl
  · exact rs_tup (h _ (.inl rfl))
  · exact rs_lst (h _ (.inr rfl))
theorem rc_tupQ (s : Sq d xs) (h : P (.tup xs)) : RC1 K (rTup K) [d] P := by
  rcases s with rfl | rfl
  · exact rc_tupT h
  · exact rc_tupL h
end
theorem ite_dec {p A B : Prop} [Decidable p] (h1 : p → A) (h2 : ¬ p → B) : if decide p = true then A else B := ite2 (fun h => h1 (of_decide_eq_true h)) fun h => h2 fun q => h (decide_eq_true q)
theorem ite_ndec {p A B : Prop} [Decidable p] (h1 : ¬ p → A) (h2 : p → B) : if (!decide p) = true then A else B := by
  by_cases q : p
  · rw [decide_eq_true q]
    exact h2 q
  · rw [decide_eq_false q]
    exact h1 q
theorem ite_b {b : Bool} {A B : Prop} (h1 : b = true → A) (h2 : b = false → B) : if b = true then A else B := by
  cases b with
  | true => exact h1 rfl
  | false => exact h2 rfl
theorem ite_nb {b : Bool} {A B : Prop} (h1 : b = false → A) (h2 : b = true → B) : if (!b) = true then A else B := by
  cases b with
  | true => exact h2 rfl
  | false => exact h1 rfl
end DL
namespace DL
open PySem L2 Evl
section
variable {c : Ct} {Γ : List Sl} {Φ : Dt → List Sl → Prop}
/-- a field of a name's object -/
theorem w_fldV {i : Nat} {f : Str} {C : Addr} {ns : List Str} {ds : List Dt} {d : Dt} (h : Γ[i]? = some (.im (.ins C ns ds))) (hc : Cls c.K C) (hn : NoAttr c.K C f) (hk : (ns.zip ds).lookup f = some d) (q : Φ d Γ) : Wp c (tFld c.K (tVar i) f) Γ Φ :=
  w_fld (w_var h ⟨C, ns, ds, d, rfl, hc, hn, hk, q⟩)
end
end DL
/-! DL7: readings with the written part named -/
namespace DL
open PySem L2 Evl
section
variable {X : Cx} (K : PySem.W.Frag) (h : X.K = K)
include h
theorem op_addK : OpR X (binaryOp .Add) (rAddX K) := by subst h; exact op_addX
theorem op_eqK (hu : X.A.units + 64 < cLine) : OpR X (compareOp .Eq) (rEqX K) := by subst h; exact op_eqX hu
theorem op_neK (hu : X.A.units + 64 < cLine) : OpR X (compareOp .NotEq) (rNeX K) := by subst h; exact op_neX hu
theorem ix_seqK : IxR X (rIx K) := by subst h; exact ix_seq
theorem sl_K : SlR X (rSlX K) := by subst h; exact sl_X
theorem call_lenK : CallR X (.builtin "len") (rLen K) := by subst h; exact call_lenX
theorem call_tupK : CallR X (.type "tuple") (rTup K) := by subst h; exact call_tupX
theorem call_isiK' : CallR X (.builtin "isinstance") (rIsi K) := by subst h; exact call_isi
theorem cr_sumK (hc : X.calm = true) : CallR X (.builtin "sum") (rSum K) := by subst h; exact cr_sum hc
theorem cr_maxK' (hc : X.calm = true) : CallR X (.builtin "max") (rMax K) := by subst h; exact cr_max hc
theorem cr_minK' (hc : X.calm = true) : CallR X (.builtin "min") (rMin K) := by subst h; exact cr_min hc
theorem pe_fldK {e : Expr} {ta : TE} {f : Str} {pos : Pos} (he : PE X e ta) (hb : attributeBase e f X.env (eval e X.env) = eval e X.env) : PE X (.Attribute e f pos) (tFld K ta f) := by subst h; exact pe_fld he hb
theorem pe_revK {e : Expr} {te : TE} {k : Nat} {p1 p2 p3 pos : Pos} (he : PE X e te) : PE X (.Subscript e (.Slice none none (some (.UnaryOp .USub (.Constant (.int 1) k p1) p2)) p3) pos) (tRevS K te) := by subst h; exact pe_revS he
theorem pi_tupK {tg l : Expr} {tl : TE} (hl : PE X l tl) : PI X tg l (iTup K tl) := by subst h; exact pi_tup hl
theorem pi_listK {tg l : Expr} {tl : TE} (hl : PE X l tl) : PI X tg l (iList K tl) := by subst h; exact pi_list hl
theorem pg_tupK {es : List Expr} {k : Nat} {t : TGs} {n : Nat} {pos : Pos} (hc : X.calm = true) (hh : PGs X es t) (hn : (assignEach es X.env).length = n := by rfl) (hst : (assignEach es X.env).findIdx? (·.1) = none := by rfl) : PG X (.Tuple es k pos) (gTup K n t) := by subst h; exact pg_tup hc hh hn hst
end
section
variable {c : Ct} {Γ : List Sl} {Φ : Dt → List Sl → Prop} {te : TE}
/-- r[::-1] -/
theorem w_rev (h : Wp c te Γ fun x Γ1 => (∃ xs, x = .tup xs ∧ Φ (.tup xs.reverse) Γ1) ∨ ∃ xs, x = .lst xs ∧ Φ (.lst xs.reverse) Γ1) : Wp c (tRevS c.K te) Γ Φ := fun Z M H σ R O E Q k =>
  h Z M H σ R O E _ fun v x Γ1 M1 H1 p E1 ix => by
    rcases p with ⟨xs, e, p⟩ | ⟨xs, e, p⟩
    · subst e
      obtain ⟨a, vs, rfl, h1, h1', i1⟩ := sqT_is ix
      exact ⟨a, vs, rfl, .inr ⟨h1, fun q hq => k _ _ Γ1 M1 _ p (E1.new hq) (.tup (.inl (.inl (E1.fz hq _))) (i1.reverse.mono (ex_fz (Ex.new hq))))⟩⟩
    · subst e
      obtain ⟨a, vs, rfl, h1, i1⟩ := sqL_is ix
      exact ⟨a, vs, rfl, .inl ⟨SqL.of h1, fun q hq => k _ _ Γ1 M1 _ p (E1.new hq) (.lst (E1.fz hq _) (i1.reverse.mono (ex_fz (Ex.new hq))))⟩⟩
end
section
variable {c : Ct} {Γ : List Sl} {Φ : Dt → List Sl → Prop} {te : TE} {t : TT}
theorem filt_snoc {p : Dt → Bool} {e : Dt → Dt} {xs : List Dt} {i : Nat} {d : Dt} (h : xs[i]? = some d) : ((xs.take (i + 1)).filter p).map e = if p d = true then ((xs.take i).filter p).map e ++ [e d] else ((xs.take i).filter p).map e := by
  obtain ⟨h1, h2⟩ := List.getElem?_eq_some_iff.mp h
  rw [List.take_succ_eq_append_getElem h1, h2, List.filter_append, List.map_append]
  by_cases q : p d = true
  · rw [if_pos q]; simp [q]
  · rw [if_neg q]; simp [q]
/-- a comprehension: what is kept, what is made of it -/
theorem w_lcF {wi : TI} {g : TG} {vs : List Nat} (hv : vs.all (fun i => !c.zs.contains i) = true) (tg : Tgt g vs) (p : Dt → Bool) (e : Dt → Dt)
    (h : Wi c wi Γ fun xs Γ1 => xs.length ≤ sizeLine ∧ (∀ (i : Nat) (d : Dt), xs[i]? = some d → Wg c.no g d (wipeG Γ1 vs) fun Γ2 => Wt c.no t Γ2 fun b Γ3 => b = p d ∧ if b = true then Wp c.no te Γ3 fun o Γ4 => o = e d ∧ wipeG Γ4 vs = wipeG Γ1 vs else wipeG Γ3 vs = wipeG Γ1 vs) ∧
      Φ (.lst ((xs.filter p).map e)) (wipeG Γ1 vs)) : Wp c (tLc wi g t te vs) Γ Φ := by
  refine w_lc (fun i hi hz => ?_) tg ?_
  · have q := List.all_eq_true.mp hv i hi
    rw [List.contains_iff_mem.mpr hz] at q
    cases q
  · refine fun Z M H σ R O E Q k => h Z M H σ R O E Q fun J W S xs Γ1 M1 H1 ⟨hl, hs, hf⟩ src hW E1 => k J W S xs Γ1 M1 H1 ⟨hl, fun i acc Γ' => Γ' = wipeG Γ1 vs ∧ acc = ((xs.take i).filter p).map e, ⟨rfl, by simp⟩, ?_, ?_⟩ src hW E1
    · rintro i d acc Γ' ed ⟨rfl, rfl⟩
      refine (hs i d ed).mono fun Γ2 h2 => Wt.mono h2 fun b Γ3 ⟨hb, h3⟩ => ?_
      cases b with
      | true =>
        refine (show Wp c.no te Γ3 _ from h3).mono fun o Γ4 ⟨eo, e4⟩ => ⟨e4, ?_⟩
        rw [filt_snoc ed, if_pos hb.symm, eo]
      | false =>
        refine ⟨h3, ?_⟩
        rw [filt_snoc ed, if_neg (by rw [← hb]; simp)]
    · rintro acc Γ' _ ⟨rfl, rfl⟩
      rw [List.take_length]
      exact hf
/-- .. with no test -/
theorem w_lcM {wi : TI} {g : TG} {vs : List Nat} (hv : vs.all (fun i => !c.zs.contains i) = true) (tg : Tgt g vs) (e : Dt → Dt)
    (h : Wi c wi Γ fun xs Γ1 => xs.length ≤ sizeLine ∧ (∀ (i : Nat) (d : Dt), xs[i]? = some d → Wg c.no g d (wipeG Γ1 vs) fun Γ2 => Wt c.no t Γ2 fun b Γ3 => b = true ∧ Wp c.no te Γ3 fun o Γ4 => o = e d ∧ wipeG Γ4 vs = wipeG Γ1 vs) ∧
      Φ (.lst (xs.map e)) (wipeG Γ1 vs)) : Wp c (tLc wi g t te vs) Γ Φ := by
  refine w_lcF hv tg (fun _ => true) e fun Z M H σ R O E Q k => h Z M H σ R O E Q fun J W S xs Γ1 M1 H1 ⟨hl, hs, hf⟩ src hW E1 => k J W S xs Γ1 M1 H1 ⟨hl, fun i d ed => ?_, ?_⟩ src hW E1
  · refine (hs i d ed).mono fun Γ2 h2 => Wt.mono h2 fun b Γ3 ⟨hb, h3⟩ => ⟨hb, ?_⟩
    rw [hb, if_pos rfl]
    exact h3
  · rw [show xs.filter (fun _ => true) = xs from List.filter_eq_self.mpr fun _ _ => rfl]
    exact hf
end

/-! ### equal data, by what they tell -/
structure EqE {α : Type} [DecidableEq α] (f : α → Dt) (n : Nat) : Prop where
  pl : ∀ a, (f a).plain = true
  la : ∀ a, (f a).pd.canLay0 = true
  dp : ∀ a, (f a).pd.depth ≤ n
  ev : ∀ a b, PyData.eqv (f a).pd (f b).pd = decide (a = b)
theorem eqe_int : EqE Dt.int 0 := ⟨fun _ => rfl, fun _ => rfl, fun _ => Nat.le_refl _, fun a b => Bool.beq_eq_decide_eq a b⟩
section
variable {α β γ : Type} [DecidableEq α] [DecidableEq β] [DecidableEq γ] {f : α → Dt} {g : β → Dt} {h : γ → Dt} {n : Nat}
theorem eqe_all (e : EqE f n) : ∀ xs : List α, Dt.plains (xs.map f) = true ∧ PyData.canLayAll0 (Dt.pds (xs.map f)) = true ∧ PyData.depthAll (Dt.pds (xs.map f)) ≤ n
  | [] => ⟨rfl, rfl, Nat.zero_le _⟩
  | x :: r => by
    obtain ⟨h1, h2, h3⟩ := eqe_all e r
    refine ⟨?_, ?_, ?_⟩
    · show ((f x).plain && Dt.plains (r.map f)) = true
      rw [e.pl, h1]; rfl
    · show ((f x).pd.canLay0 && PyData.canLayAll0 (Dt.pds (r.map f))) = true
      rw [e.la, h2]; rfl
    · show max ((f x).pd.depth) (PyData.depthAll (Dt.pds (r.map f))) ≤ n
      exact Nat.max_le.mpr ⟨e.dp x, h3⟩
theorem eqe_evs (e : EqE f n) : ∀ xs ys : List α, PyData.eqvAll (Dt.pds (xs.map f)) (Dt.pds (ys.map f)) = decide (xs = ys)
  | [], [] => rfl
  | [], _ :: _ => rfl
  | _ :: _, [] => rfl
  | x :: r, y :: q => by
    show (PyData.eqv (f x).pd (f y).pd && PyData.eqvAll (Dt.pds (r.map f)) (Dt.pds (q.map f))) = _
    rw [e.ev, eqe_evs e r q, ← Bool.decide_and]
    congr 1
    simp
theorem eqe_tup (e : EqE f n) : EqE (fun xs : List α => Dt.tup (xs.map f)) (n + 1) := ⟨fun xs => (eqe_all e xs).1, fun xs => (eqe_all e xs).2.1, fun xs => Nat.succ_le_succ (eqe_all e xs).2.2, eqe_evs e⟩
theorem eqe_lst (e : EqE f n) : EqE (fun xs : List α => Dt.lst (xs.map f)) (n + 1) := ⟨fun xs => (eqe_all e xs).1, fun xs => (eqe_all e xs).2.1, fun xs => Nat.succ_le_succ (eqe_all e xs).2.2, eqe_evs e⟩
theorem eqe_2 (e : EqE f n) (e' : EqE g n) : EqE (fun p : α × β => Dt.tup [f p.1, g p.2]) (n + 1) where
  pl := fun p => by show ((f p.1).plain && ((g p.2).plain && true)) = true; rw [e.pl, e'.pl]; rfl
  la := fun p => by show ((f p.1).pd.canLay0 && ((g p.2).pd.canLay0 && true)) = true; rw [e.la, e'.la]; rfl
  dp := fun p => Nat.succ_le_succ (Nat.max_le.mpr ⟨e.dp _, Nat.max_le.mpr ⟨e'.dp _, Nat.zero_le _⟩⟩)
  ev := fun p q => by
    show (PyData.eqv (f p.1).pd (f q.1).pd && (PyData.eqv (g p.2).pd (g q.2).pd && true)) = _
    rw [e.ev, e'.ev, Bool.and_true, ← Bool.decide_and]
    congr 1
    exact propext ⟨fun h => Prod.ext h.1 h.2, fun h => by rw [h]; exact ⟨rfl, rfl⟩⟩
theorem eqe_3 (e : EqE f n) (e' : EqE g n) (e'' : EqE h n) : EqE (fun p : α × β × γ => Dt.tup [f p.1, g p.2.1, h p.2.2]) (n + 1) where
  pl := fun p => by show ((f p.1).plain && ((g p.2.1).plain && ((h p.2.2).plain && true))) = true; rw [e.pl, e'.pl, e''.pl]; rfl
  la := fun p => by show ((f p.1).pd.canLay0 && ((g p.2.1).pd.canLay0 && ((h p.2.2).pd.canLay0 && true))) = true; rw [e.la, e'.la, e''.la]; rfl
  dp := fun p => Nat.succ_le_succ (Nat.max_le.mpr ⟨e.dp _, Nat.max_le.mpr ⟨e'.dp _, Nat.max_le.mpr ⟨e''.dp _, Nat.zero_le _⟩⟩⟩)
  ev := fun p q => by
    show (PyData.eqv (f p.1).pd (f q.1).pd && (PyData.eqv (g p.2.1).pd (g q.2.1).pd && (PyData.eqv (h p.2.2).pd (h q.2.2).pd && true))) = _
    rw [e.ev, e'.ev, e''.ev, Bool.and_true, ← Bool.decide_and, ← Bool.decide_and]
    congr 1
    exact propext ⟨fun h => Prod.ext h.1 (Prod.ext h.2.1 h.2.2), fun h => by rw [h]; exact ⟨rfl, rfl, rfl⟩⟩
theorem eqe_mono {m : Nat} (e : EqE f n) (l : n ≤ m) : EqE f m := ⟨e.pl, e.la, fun a => Nat.le_trans (e.dp a) l, e.ev⟩
theorem EqE.shp (e : EqE f n) (hn : n ≤ 64) (a : α) : (f a).shp = true := by
  show ((f a).plain && ((f a).pd.canLay0 && decide ((f a).pd.depth ≤ 64))) = true
  rw [e.pl, e.la, decide_eq_true (Nat.le_trans (e.dp a) hn)]
  rfl
variable {K : PySem.W.Frag} {P : Dt → Prop}
theorem rd_eqE (e : EqE f n) (hn : n ≤ 64) (a b : α) (p : P (.bl (decide (a = b)))) : RD K (rEqX K) (f a) (f b) P := rd_eq (e.shp hn a) (e.shp hn b) (by rw [e.ev]; exact p)
theorem rd_neE (e : EqE f n) (hn : n ≤ 64) (a b : α) (p : P (.bl (!decide (a = b)))) : RD K (rNeX K) (f a) (f b) P := rd_ne (e.shp hn a) (e.shp hn b) (by rw [e.ev]; exact p)
end

section
variable {c : Ct} {Γ : List Sl} {Φ : Dt → List Sl → Prop} {Ψ : Out → Prop} {t : TT} {ts us : TS} {ta tb : TE}
/-- a test told by a proposition -/
theorem s_ifP (q : Prop) (h : Wt c t Γ fun b Γ1 => Γ1 = Γ ∧ (b = true ↔ q)) (h1 : q → Ws c ts Γ Ψ) (h2 : ¬ q → Ws c us Γ Ψ) : Ws c (tIfS t ts us) Γ Ψ := s_if (Wt.mono h fun b Γ1 ⟨e, i⟩ => by
  subst e
  cases b with
  | true => exact iteT (h1 (i.mp rfl))
  | false => exact iteF (h2 fun z => Bool.false_ne_true (i.mpr z)))
theorem w_ifP (q : Prop) (h : Wt c t Γ fun b Γ1 => Γ1 = Γ ∧ (b = true ↔ q)) (h1 : q → Wp c ta Γ Φ) (h2 : ¬ q → Wp c tb Γ Φ) : Wp c (tIf t ta tb) Γ Φ := w_if (Wt.mono h fun b Γ1 ⟨e, i⟩ => by
  subst e
  cases b with
  | true => exact iteT (h1 (i.mp rfl))
  | false => exact iteF (h2 fun z => Bool.false_ne_true (i.mpr z)))
end

/-! ### a def with its code object -/
structure FunDc (K : PySem.W.Frag) (x qual : Str) (params : Arguments) (body : List Stmt) (scope : Scope) (dvs : List V) (f : Addr) (fd : FuncData) (c : Addr) : Prop where
  ex : ∃ (oc : Value) (od : Option Addr) (dV kV doc pm : Value) (an : Option Addr) (ct : Value) (osl : Array (Option Value)),
    fd = PySem.W.fnOf x qual params body scope dV kV doc pm an (.ref c) ct ∧ K.lookup f = some ⟨oc, od, .func fd, osl⟩ ∧ PySem.W.codeIn K (.ref c) qual = true ∧ DflV K dV dvs ∧ KwdV K kV []
  kp : PySem.W.keepIn K (.ref f) = true
theorem FunDc.d {K : PySem.W.Frag} {x qual : Str} {params : Arguments} {body : List Stmt} {scope : Scope} {dvs : List V} {f : Addr} {fd : FuncData} {c : Addr} (F : FunDc K x qual params body scope dvs f fd c) : FunD K x qual params body scope dvs [] f fd := by
  obtain ⟨oc, od, dV, kV, doc, pm, an, ct, osl, h⟩ := F.ex
  exact ⟨⟨oc, od, dV, kV, doc, pm, an, _, ct, osl, h⟩, F.kp⟩
theorem read_D {K : PySem.W.Frag} {T : TbT} {N : List Str} {pm : Pm} {E : XK} {tt : TS} {vs : List V} {H : Hp} {Q : VK} (h2 : ∀ ds Φ Ψ, pm ds Φ Ψ → Ws ⟨K, T, [], E, Ψ, False⟩ tt (slots0 N ds) (rets Φ)) (h : spD K T pm vs H Q E) : tt { nx := fun _ H' => Q .non H', rt := Q } (L2.start N vs) H := by
  obtain ⟨tb, M, ds, Φ, Ψ, t, i, p, q, qx⟩ := h
  refine h2 ds Φ Ψ p ⟨H, M, [], T⟩ M H _ (fun _ => True) _ ⟨rfl, fun cls H' pc f tb' => qx cls H' pc ⟨fun a o ha n => f a o ha (fun j => by simp) n, fun _ => tb'⟩, False.elim⟩ (en_start t tb i) ⟨fun Γ σ M' H' p E => ?_, fun d Γ v σ M' H' p E iv => ?_, fun _ _ _ _ p _ => p.elim, fun _ _ _ _ p _ => p.elim⟩
  · exact q .non .non H' p ⟨fun a o ha n => E.pres a o ha (fun j => by simp) n, fun _ => E.tab⟩ .non
  · exact q v d H' p ⟨fun a o ha n => E.pres a o ha (fun j => by simp) n, fun _ => E.tab⟩ (iv.mono fun a u z => Fz.step z (fun _ q _ => q) fun m => Fz.nm z (E.sub a m))
theorem fnd_Dc {P : Program} {w : World} {K : PySem.W.Frag} {T : TbT} {mg : Str → Option Value} {base : Heap} {x qual : Str} {st : Stmt} {f c : Addr} {fd : FuncData} {dvs : List V} {N ps : List Str} {k : Nat} {pm : Pm} (F : FunDc K x qual (defArgs st) (defBody st) (defScope st) dvs f fd c) (S : FnScope N ps (defScope st))
    (len : ∀ ds Φ Ψ, pm ds Φ Ψ → ds.length = ps.length)
    (hb : ∀ (A : Around) (outer : List Env) (s : Shared) (H : Hp) (E : XK), Room k (A.deeper (PyProof.Rows.envOfC qual (defScope st) s.heap.objs.size f (.ref c))) →
      ∃ t, PSs (cxOf (L2.CX P w) P w K mg base N qual (defScope st) f (.ref c) A outer s H E) (defBody st) t ∧ ∀ ds Φ Ψ, pm ds Φ Ψ → Ws ⟨K, T, [], E, Ψ, False⟩ t (slots0 N ds) (rets Φ)) : FnOk P w K mg base (L2.CX P w) (k + 1) f fd ps (spD K T pm) := by
  obtain ⟨oc, od, dV, kV, doc, pm', an, ct, osl, rfl, lk, hcd, _⟩ := F.ex
  refine fn_of lk hcd S (fun vs H Q E h => ?_) fun A outer s H vs Q E hr h => ?_
  · obtain ⟨_, M, ds, Φ, Ψ, _, i, p, _⟩ := h
    rw [i.length]
    exact len _ _ _ p
  · obtain ⟨tt, h1, h2⟩ := hb A outer s H E hr
    exact ⟨tt, h1, read_D h2 h⟩

/-! ### methods of texts by name -/
def rJoin (K : PySem.W.Frag) : V → List V → Hp → VK → Prop := fun x xs H Q => ∃ a p, ∃ ys : List Str, x = .str a ∧ xs = [.ref p] ∧ (SqL K H p (ys.map V.str) ∨ SqT K H p (ys.map V.str)) ∧ (ys.map (·.length)).sum + ys.length * a.length ≤ 16777216 ∧ Q (.str (Txt.join a ys)) H
def rPart : V → List V → Hp → VK → Prop := fun x xs H Q => ∃ a b, x = .str a ∧ xs = [.str b] ∧ (b.length == 0) = false ∧ a.length ≤ sizeLine ∧ ∀ p, H p = none → Q (.ref p) (upd H p (.tup [.str (Txt.partition a b).1, .str (Txt.partition a b).2.1, .str (Txt.partition a b).2.2]))
def rStrip : V → List V → Hp → VK → Prop := fun x xs H Q => ∃ a b, x = .str a ∧ xs = [.str b] ∧ a.length ≤ sizeLine ∧ Q (.str (Txt.stripChars a b)) H
def rFind : V → List V → Hp → VK → Prop := fun x xs H Q => ∃ a b, x = .str a ∧ xs = [.str b] ∧ Q (.int (Txt.find a b)) H
def rCount : V → List V → Hp → VK → Prop := fun x xs H Q => ∃ a b, x = .str a ∧ xs = [.str b] ∧ Q (.int (Txt.count a b)) H
section
variable {X : Cx} (K : PySem.W.Frag)
theorem mt_joinK (h : X.K = K) : MtR X "str.join" (rJoin K) := by subst h; exact mt_join
theorem mt_partX : MtR X "str.partition" rPart := mt_partition
theorem mt_stripX : MtR X "str.strip" rStrip := mt_stripChars
theorem mt_findX : MtR X "str.find" rFind := mt_find
theorem mt_countX : MtR X "str.count" rCount := mt_count
end
section
variable {K : PySem.W.Frag} {P : Dt → Prop} {s b : Str} {c : Ct} {Γ : List Sl} {Φ : Dt → List Sl → Prop} {ta te : TE}
theorem rj_lst {ys : List Str} (hl : (ys.map (·.length)).sum + ys.length * s.length ≤ 16777216) (h : P (.str (Txt.join s ys))) : RM K (rJoin K) (.str s) [.lst (ys.map Dt.str)] P := rm_join hl h
theorem rj_part (hb : (b.length == 0) = false) (hl : s.length ≤ sizeLine) (h : P (.tup [.str (Txt.partition s b).1, .str (Txt.partition s b).2.1, .str (Txt.partition s b).2.2])) : RM K rPart (.str s) [.str b] P := rm_part hb hl h
theorem rj_strip (hl : s.length ≤ sizeLine) (h : P (.str (Txt.stripChars s b))) : RM K rStrip (.str s) [.str b] P := rm_strip hl h
theorem rj_find (h : P (.int (Txt.find s b))) : RM K rFind (.str s) [.str b] P := rm_ss (gd := fun s b => .int (Txt.find s b)) (fun _ => .int) h
theorem rj_count (h : P (.int (Txt.count s b))) : RM K rCount (.str s) [.str b] P := rm_ss (gd := fun s b => .int (Txt.count s b)) (fun _ => .int) h
/-- a joined text -/
theorem w_join (h : Wp c ta Γ fun x Γ1 => ∃ s : Str, x = .str s ∧ Wp c te Γ1 fun y Γ2 => ∃ ys : List Str, y = .lst (ys.map Dt.str) ∧ (ys.map (·.length)).sum + ys.length * s.length ≤ 16777216 ∧ Φ (.str (Txt.join s ys)) Γ2) : Wp c (tM1 (rJoin c.K) ta te) Γ Φ :=
  w_m1 (h.mono fun x Γ1 ⟨s, e, h1⟩ => ⟨s, e, h1.mono fun y Γ2 ⟨ys, ey, hl, p⟩ => by subst ey; exact rj_lst hl p⟩)
end
theorem t_yes {c : Ct} {Γ : List Sl} {ΦT : Bool → List Sl → Prop} (h : ΦT true Γ) : Wt c tYes Γ ΦT := fun Z M H σ R O E Q k => k true Γ M H h E
end DL
/-! DLS: texts as rows of signs -/
namespace DL
open PySem L2 Evl TL
theorem tl_empty : tl Str.empty = [] := rfl
theorem join_nil (z : Str) : Txt.join z [] = Str.empty := by rw [TL.join_eq]; rfl
/-- joined by nothing -/
theorem tl_join0 {z : Str} (hz : tl z = []) : ∀ ys : List Str, tl (Txt.join z ys) = (ys.map tl).flatten
  | [] => by rw [join_nil]; rfl
  | [x] => by rw [TL.join_eq]; show tl x = _; simp
  | x :: y :: r => by
    have ih := tl_join0 hz (y :: r)
    rw [TL.join_eq] at ih ⊢
    show tl (x ++ z ++ Str.join z (y :: r)) = _
    rw [tl_append, tl_append, hz, ih]
    simp
theorem len_join {z : Str} (hz : tl z = []) (ys : List Str) : (Txt.join z ys).length = (ys.map (·.length)).sum := by
  rw [len_tl, tl_join0 hz, List.length_flatten, List.map_map]
  exact congrArg List.sum (List.map_congr_left fun y _ => (len_tl y).symm)
theorem len_app (a b : Str) : (a ++ b).length = a.length + b.length := by rw [len_tl, len_tl, len_tl, tl_append, List.length_append]
theorem drop_tw (g : Nat → Bool) : ∀ L : List Nat, L.drop (L.takeWhile g).length = L.dropWhile g
  | [] => rfl
  | c :: r => by
    by_cases h : g c = true
    · rw [List.takeWhile_cons, if_pos h, List.dropWhile_cons, if_pos h]
      exact drop_tw g r
    · rw [List.takeWhile_cons, if_neg h, List.dropWhile_cons, if_neg h]
      rfl
theorem tw_mem (g : Nat → Bool) : ∀ (L : List Nat) (c : Nat), c ∈ L.takeWhile g → g c = true
  | [], c, h => by simp at h
  | d :: r, c, h => by
    rw [List.takeWhile_cons] at h
    by_cases q : g d = true
    · rw [if_pos q] at h
      rcases List.mem_cons.mp h with e | e
      · rw [e]; exact q
      · exact tw_mem g r c e
    · rw [if_neg q] at h
      simp at h
theorem dw_nil (g : Nat → Bool) : ∀ L : List Nat, L.dropWhile g = [] ↔ ∀ c ∈ L, g c = true
  | [] => by simp
  | c :: r => by
    rw [List.dropWhile_cons]
    by_cases h : g c = true
    · rw [if_pos h, dw_nil g r]
      simp [h]
    · rw [if_neg h]
      simp [h]
theorem strip_list (g : Nat → Bool) (L : List Nat) : ((L.drop (L.takeWhile g).length).take (L.length - ((L.drop (L.takeWhile g).length).reverse.takeWhile g).length - (L.takeWhile g).length) = []) ↔ ∀ c ∈ L, g c = true := by
  have hl : (L.dropWhile g).length = L.length - (L.takeWhile g).length := by rw [← drop_tw, List.length_drop]
  rw [drop_tw]
  constructor
  · intro h
    rw [← dw_nil]
    cases hD : L.dropWhile g with
    | nil => rfl
    | cons c r =>
      exfalso
      rw [hD] at h hl
      have h1 := congrArg List.length h
      rw [List.length_take, List.length_nil, List.length_cons] at h1
      rw [List.length_cons] at hl
      have h2 : ((c :: r).reverse.takeWhile g).length ≥ (c :: r).reverse.length := by
        rw [List.length_reverse, List.length_cons]
        omega
      have h3 : (c :: r).reverse.takeWhile g = (c :: r).reverse := (List.takeWhile_sublist g).eq_of_length_le h2
      have h4 : g c = true := by
        have : c ∈ (c :: r).reverse.takeWhile g := by rw [h3]; simp
        exact tw_mem g _ c this
      have h5 := List.head_dropWhile_not g (l := L) (by rw [hD]; simp)
      simp only [hD, List.head_cons] at h5
      rw [h4] at h5
      cases h5
  · intro h
    rw [(dw_nil g L).mpr h, List.take_nil]
/-- strip takes all -/
theorem strip_nil (x y : Str) : Txt.stripChars x y = Str.empty ↔ ∀ c ∈ tl x, c ∈ tl y := by
  have e : Txt.stripChars x y = W.stripped y.cps.contains true true x := W.stripBy_eq _ _ _ _
  have ct : ∀ c, y.cps.contains c = true ↔ c ∈ tl y := fun c => by
    rw [Array.contains_iff_mem]
    exact Array.mem_toList_iff.symm
  rw [e]
  unfold W.stripped
  simp only [if_true]
  have h1 := strip_list y.cps.contains (tl x)
  constructor
  · intro h c hc
    have h2 := congrArg tl h
    rw [tl_strSub, tl_empty, len_tl] at h2
    exact (ct c).mp (h1.mp h2 c hc)
  · intro h
    apply ext_tl
    rw [tl_strSub, tl_empty, len_tl]
    exact h1.mpr fun c hc => (ct c).mpr (h c hc)
/-- a figure read -/
theorem fig_text {n : Nat} (h : n < 10) : (Str.ofString (toString (n : Int))) = ⟨#[48 + n]⟩ := ext_tl (by rw [tl_num, numL_lt h])
theorem fig_read {n : Nat} (h : n < 10) : PySem.intText? ⟨#[48 + n]⟩ = some (n : Int) := by
  rw [← fig_text h]
  exact int_num (by rw [numL_lt h]; simp)
/-- the signs of a text, walked -/
def signsD (x : Str) : List Dt := x.cps.toList.map fun c => Dt.str ⟨#[c]⟩
theorem signsD_len (x : Str) : (signsD x).length = x.length := by unfold signsD; rw [List.length_map]; exact Array.length_toList
theorem src_str (K : PySem.W.Frag) (x : Str) : Src K (Its x) (fun _ => True) (fun _ => True) (signsD x) where
  mono := fun _ _ _ _ => trivial
  stop := fun M H i _ _ _ h => by rw [signsD_len] at h; exact h
  go := fun M H i _ _ _ h => by rw [signsD_len] at h; exact h
  yld := fun M H i v H' _ _ _ y h => by
    obtain ⟨e, c, hc, rfl⟩ := y
    subst e
    refine ⟨_, ?_, Ex.refl _, .str⟩
    unfold signsD
    rw [List.getElem?_map, Array.getElem?_toList, hc]
    rfl
theorem i_str {c : Ct} {Γ : List Sl} {te : TE} {ΦA : List Dt → List Sl → Prop} (h : Wp c te Γ fun d Γ1 => ∃ x, d = .str x ∧ ΦA (signsD x) Γ1) : Wi c (iStr te) Γ ΦA := fun Z M H σ R O E Q k =>
  h Z M H σ R O E _ fun v d Γ1 M1 H1 ⟨x, e, p⟩ E1 i => by
    subst e
    cases i
    exact ⟨x, rfl, k _ _ _ _ Γ1 M1 H1 p (src_str c.K x) (fun _ _ => trivial) (E1.src (fun _ _ _ _ => trivial) trivial)⟩
end DL
/-! DLG: any, all over a tuple of ints -/
namespace DL
open PySem PySem.Spec PyProof.Rows L2 Evl
/-- the element tells of a whole number what pb says -/
def EltI (prog : Program) (w : World) (sc : Scope) (x : Str) (elt : Expr) (pb : Int → Bool) : Prop :=
  ∀ (env : Env) (B : Around) (E : Value → Shared → Prop) (n : Int) (t : Tok) (s : Shared) (m : Str → Option Value), env.scope = sc → s.heap.Ns env.locals m → m x = some (.int n t) →
    wpAny (model prog w) B (eval elt env) (fun y s3 => y = .bool (pb n) ∧ PySem.Keeps s s3) E s
/-- x > k -/
theorem elt_gt {prog : Program} {w : World} {sc : Scope} {x : Str} {k : Int} {j : Nat} {p1 p2 p3 : Pos} (hk : sc.kind = .function) (hl : sc.names.lookup x = some .local) (hd : (x == ("__debug__" : Str)) = false := by decide) :
    EltI prog w sc x (.Compare (.Name x p1) [.Gt] [.Constant (.int k) j p2] p3) (fun n => decide (k < n)) := fun env B E n t s m hs hn hm => by
  subst hs
  exact wpAny_Compare1 (wpAny_Name (wpAny_loadName_local hk hl hn hm (wpAny_Constant_int (gt_int ⟨rfl, GxR.keeps_tok _ _⟩))) hd)
def atP (pb : Int → Bool) (l : List Int) (j : Nat) : Bool := (l[j]?.map pb).getD false
theorem atP_any (pb : Int → Bool) (l : List Int) : (List.range l.length).any (atP pb l) = l.any pb := by
  rw [Bool.eq_iff_iff, List.any_eq_true, List.any_eq_true]
  constructor
  · rintro ⟨j, hj, e⟩
    have lt := List.mem_range.mp hj
    unfold atP at e
    rw [List.getElem?_eq_getElem lt] at e
    exact ⟨_, List.getElem_mem lt, e⟩
  · rintro ⟨b, hb, e⟩
    obtain ⟨j, lt, rfl⟩ := List.getElem_of_mem hb
    refine ⟨j, List.mem_range.mpr lt, ?_⟩
    unfold atP
    rw [List.getElem?_eq_getElem lt]
    exact e
section
variable {X : Cx} {pins : List (Addr × Obj)} {σ : L2.St} {H : Hp} {s : Shared}
/-- the table has grown by a code object at c, generators have run -/
theorem inv_tabc {P c : Addr} {q : Str} {ps more : Array Value} {h' : Heap} {g' : Array GenState} {d' : Drawn} {t' : Nat} (I : Inv X pins σ H s) (hP : H P = some (.tbl ps)) (k : ∀ b o, b ≠ P → s.heap.get? b = some o → h'.get? b = some o) (hm : h'.get? P = some { cls := .none, data := .fields (ps ++ more) }) (hg : AllBare g')
    (hc : s.heap.objs.size ≤ c) (ho : ∃ (oc : Obj) (vs : Array Value) (t : Tok), h'.get? c = some oc ∧ oc.data = .fields vs ∧ vs[1]? = some (.str q t)) : Inv X pins σ (upd (upd H P (.tbl (ps ++ more))) c (LamX.CodeO c q)) { s with heap := h', gens := g', drawn := d', toks := t' } := by
  have nc : H c = none := I.hok.fresh hc
  have npc : P ≠ c := ne_of_none hP nc
  have same : ∀ b, b ≠ P → b ≠ c → upd (upd H P (.tbl (ps ++ more))) c (LamX.CodeO c q) b = H b := fun b e1 e2 => (upd_ne e2).trans (upd_ne e1)
  have tb : upd (upd H P (.tbl (ps ++ more))) c (LamX.CodeO c q) P = some (.tbl (ps ++ more)) := (upd_ne npc).trans upd_same
  have np : ∀ b u, H b = some u → (∀ r, u ≠ .tbl r) → b ≠ P := fun b u e z w => by subst w; exact z ps (Option.some.inj (e.symm.trans hP))
  have nq : ∀ b, H b = none → b ≠ P := fun b e w => by subst w; rw [e] at hP; cases hP
  have old : ∀ b o, s.heap.get? b = some o → b ≠ c := fun b o e w => by subst w; exact absurd (Heap.lt_size e) (Nat.not_lt.mpr hc)
  have live : ∀ b u, H b = some u → b ≠ c := fun b u e => ne_of_none e nc
  have plain : ∀ b u, H b = some u → (∀ r, u ≠ .tbl r) → upd (upd H P (.tbl (ps ++ more))) c (LamX.CodeO c q) b = some u := fun b u e z => (same b (np b u e z) (live b u e)).trans e
  refine I.step (g' := g') (d' := d') (ch := []) (fun b hb => (List.not_mem_nil hb).elim) (fun b o _ _ _ e n => k b o (nq b n) e) (fun b o _ _ _ e n => ⟨_, k b o (nq b n) e⟩) (fun b o _ e n => (same b (nq b n) (old b o e)).trans n) (fun b o _ e => ?_) (fun b xs e => plain b _ e fun r z => nomatch z)
    (fun b o u e => plain b _ e fun r z => nomatch z) (fun b qs e => ?_) (fun m hn => ?_) (fun b u e => ?_) hg
  · by_cases hb : b = P
    · exact hb ▸ ⟨_, hm⟩
    · exact ⟨o, k b o hb e⟩
  · by_cases hb : b = P
    · subst hb
      rw [hP] at e
      cases e
      exact ⟨more, tb⟩
    · exact ⟨#[], by rw [same b hb (live b _ e), e, Array.append_empty]⟩
  · obtain ⟨ob, es, ep, he, r⟩ := hn
    exact ⟨ob, es, ep, k _ ob (nq _ I.free) he, r⟩
  · by_cases hb : b = c
    · subst hb
      rw [upd_same] at e
      cases e
      obtain ⟨oc, vs, t, e1, e2, e3⟩ := ho
      exact ⟨⟨oc, vs, t, e1, e2, e3⟩, ⟨oc, e1⟩, fun h1 h2 ⟨oc, vs, t, a, b, c⟩ st => ⟨oc, vs, t, st _ a, b, c⟩⟩
    · by_cases hb2 : b = P
      · subst hb2
        rw [tb] at e
        cases e
        exact hm
      · rw [same b hb2 hb] at e
        exact (I.hok b u e).stay (fun d v hd w => k d v (hd.elim (fun z => z ▸ hb2) fun z => np d _ z fun r z => nomatch z) w) (fun d w => plain d _ w fun r z => nomatch z) fun d xs w => plain d _ w fun r z => nomatch z
end
/-- the table at P alone has grown, by codes of the name q -/
def Grows (P : Addr) (q : Str) (H1 H2 : Hp) : Prop := LamX.ExtN H1 H2 ∧ ∀ T : List (Addr × Str), (P, q) ∈ T → (∀ p ∈ T, p.1 = P → p.2 = q) → LamX.Tabs T H1 → LamX.Tabs T H2
theorem Grows.refl (P : Addr) (q : Str) (H : Hp) : Grows P q H H := ⟨LamX.ExtN.refl H, fun _ _ _ t => t⟩
theorem grows_new {H1 : Hp} {P c : Addr} {q : Str} {ps : Array Value} {pos : Pos} (hP : H1 P = some (.tbl ps)) (nC : H1 c = none) (ht : TriplesOk ps.toList) : Grows P q H1 (upd (upd H1 P (.tbl (ps ++ #[rawInt pos.line, rawInt pos.col, .ref c]))) c (LamX.CodeO c q)) := by
  have hE : LamX.ExtN H1 (upd (upd H1 P (.tbl (ps ++ #[rawInt pos.line, rawInt pos.col, .ref c]))) c (LamX.CodeO c q)) := fun b o e n => (upd_ne (ne_of_none e nC)).trans ((upd_ne fun z => by subst z; exact n ps (Option.some.inj (e.symm.trans hP))).trans e)
  refine ⟨hE, fun T hm hu t p hp => ?_⟩
  obtain ⟨qs, a1, a2, a3⟩ := t p hp
  have step : ∀ {cv : Value}, (∃ c0, cv = .ref c0 ∧ H1 c0 = some (LamX.CodeO c0 p.2)) → ∃ c0, cv = .ref c0 ∧ upd (upd H1 P (.tbl (ps ++ #[rawInt pos.line, rawInt pos.col, .ref c]))) c (LamX.CodeO c q) c0 = some (LamX.CodeO c0 p.2) := fun ⟨c0, e1, e2⟩ => ⟨c0, e1, hE _ _ e2 LamX.codeO_ne⟩
  by_cases hb : p.1 = P
  · have eq := hu p hp hb
    rw [hb, hP] at a1
    cases a1
    have eL : (ps ++ #[rawInt pos.line, rawInt pos.col, .ref c]).toList = ps.toList ++ [rawInt pos.line, rawInt pos.col, .ref c] := by simp
    refine ⟨_, by rw [hb, upd_ne (ne_of_none hP nC), upd_same], by rw [eL]; exact PySem.TriplesOk_snoc _ _ _ _ ht, fun p' cv hcv => ?_⟩
    rw [eL] at hcv
    rcases LamX.among_app _ ht hcv with z | z
    · exact step (a3 p' cv z)
    · exact ⟨c, z, by rw [eq]; exact upd_same⟩
  · exact ⟨qs, by rw [upd_ne (ne_of_none a1 nC), upd_ne hb]; exact a1, a2, fun p' cv hcv => step (a3 p' cv hcv)⟩
/-- the generator at g is ready to be walked, in s5 -/
def RdyI (X : Cx) (pins : List (Addr × Obj)) (σ : L2.St) (H1 : Hp) (P : Addr) (q : Str) (ns : List Int) (pb : Int → Bool) (g : Addr) (s5 : Shared) : Prop :=
  ∃ (fp wr : List Addr) (G : Array GenState → Array GenState → Prop) (F : Nat → Value → Prop) (St : Nat → Shared → Prop), WalksS X.prog X.w X.A.in1 g fp wr G ns.length F St ∧ St 0 s5 ∧ TruthOf X.prog X.w X.A.in1 F (atP pb ns) ∧
    ∀ s', Moved wr G s5 s' → ∃ H2, Grows P q H1 H2 ∧ Inv X pins σ H2 s'
section
variable {X : Cx} {pins : List (Addr × Obj)} {σ : L2.St} {H : Hp} {s : Shared}
theorem gen_ints {c P : Addr} {elt iter : Expr} {x : Str} {px gpos : Pos} {sc : Scope} {pb : Int → Bool} {te : TE} {k : Nat} {Q' : Value → Shared → Prop} {R : List Int → Hp → Prop} (hr : Room k X.A) (TB : GxR.TabB X.base X.mg c P) (hco : X.env.code = .ref c)
    (S : GxR.GenS X.env sc x) (hi : PE X iter te) (hel : EltI X.prog X.w sc x elt pb) (hs : ∀ v, genFold iter X.env v = pure v) (I : Inv X pins σ H s)
    (h : te σ H fun v H1 => ∃ (a : Addr) (ns : List Int), v = .ref a ∧ SqT X.K H1 a (ns.map V.int) ∧ (∃ ps : Array Value, H1 P = some (.tbl ps) ∧ TriplesOk ps.toList) ∧ R ns H1) (hQ : ∀ ns H1 g s5, R ns H1 → RdyI X pins σ H1 P (X.env.qual ++ "<genexpr>") ns pb g s5 → Q' (.ref g) s5) :
    wpAny (model X.prog X.w) X.A (eval (.GeneratorExp elt [⟨.Name x px, iter, [], 0⟩] sc gpos) X.env) Q' X.xe s := by
  refine wpAny_GeneratorExp_walksQ hr.hd S.co (closure_ok S.free) S.cell S.dot S.loc S.kind (by have := hr.dp; omega) (thn (hi.run pins s σ H _ I h) fun xv s1 ⟨v, H1, I1, r1, a, ns, ev, hsq, ⟨ps, hP, ht⟩, q1⟩ => ?_) hs
  subst ev
  cases r1
  obtain ⟨its, rv, htup, hz⟩ := I1.tuple hsq
  have hlen : its.toArray.size = ns.length := by
    have := rv.length
    rw [List.length_map] at this
    simp [← this]
  have hval : ∀ (i : Nat) (u : Value), its.toArray[i]? = some u → ∃ n t, ns[i]? = some n ∧ u = .int n t := fun i u hu => by
    have hu' : its[i]? = some u := by simpa using hu
    cases e : ns[i]? with
    | none =>
      have := rv.none_of (i := i) (by rw [List.getElem?_map, e]; rfl)
      rw [this] at hu'
      cases hu'
    | some n =>
      obtain ⟨u2, e2, r2⟩ := rv.get (i := i) (x := .int n) (by rw [List.getElem?_map, e]; rfl)
      rw [e2] at hu'
      cases hu'
      obtain ⟨t, rfl⟩ := r2
      exact ⟨n, t, rfl, rfl⟩
  have hPs : s1.heap.get? P = some { cls := .none, data := .fields ps } := I1.hok P _ hP
  have haP : a ≠ P := fun z => by
    obtain ⟨o, e1, e2, n, e3⟩ := htup
    rw [z, hPs] at e1
    cases e1
    cases e3
  have halt : a < s1.heap.objs.size := by
    obtain ⟨o, e1, _⟩ := htup
    exact Heap.lt_size e1
  have hPlt := Heap.lt_size hPs
  refine wpAny_pyIter_tuple (items := its.toArray) htup ?_
  generalize ho : ({ cls := .type "tuple_iterator", data := .fields #[.ref a, .int 0 0] } : Obj) = o
  have hP2 : (s1.heap.push o).get? P = some { cls := .none, data := .fields ps } := Heap.get?_push_of_some _ hPs
  have cd := TB.code.keeps fun b u e => Heap.get?_push_of_some o (I1.bk b u e)
  have lim2 := I1.nolimit.push o
  have cont : ∀ (code : Value) (h3 : Heap) (tk : Nat) (ps' : Array Value), Heap.ExtBut P (s1.heap.push o) h3 → (s1.heap.push o).objs.size ≤ h3.objs.size → h3.get? P = some { cls := .none, data := .fields ps' } → TriplesOk ps'.toList → (∀ s' : Shared, (∀ b u, b ≠ P → s1.heap.get? b = some u → s'.heap.get? b = some u) → s'.heap.get? P = some { cls := .none, data := .fields ps' } → (∀ b u, h3.get? b = some u → b ∉ h3.objs.size :: [s1.heap.objs.size] → s'.heap.get? b = some u) → AllBare s'.gens → s'.os = s1.os → ∃ H2, Grows P (X.env.qual ++ "<genexpr>") H1 H2 ∧ Inv X pins σ H2 s') →
      wpAny (model X.prog X.w) X.A (builtinsFor X.env.globals X.env.builtins) (fun bi s4 => ∃ Ia fp wr n0 Pf St0 pz F, Value.ref s1.heap.objs.size = .ref Ia ∧ (∀ B : Around, B.handled = none → Walks X.prog X.w B Ia fp wr n0 Pf St0) ∧ St0 0 s4.heap ∧ (∀ b ∈ fp, b < s4.heap.objs.size) ∧ s4.heap.NoLimit ∧ cStatics ∉ wr ∧
          (∀ hf : Heap, (∀ b o, s4.heap.get? b = some o → hf.get? b = some o) → QuietGen X.prog X.w (genEnv sc (cloFrom X.env.cells sc.names []) s4.heap.objs.size code bi X.env) x [] elt (List.range s4.heap.objs.size) wr Pf pz F hf) ∧
          (∀ a h5 tk gs, gs.bare = true → s4.heap.objs.size < a → h5.objs.size = a + 1 → (∀ b o, s4.heap.get? b = some o → h5.get? b = some o) →
            WalksS X.prog X.w X.A.in4 a (a :: s4.heap.objs.size :: List.range s4.heap.objs.size) (s4.heap.objs.size :: wr) (GenOnlyQ s4.gens.size) (passing pz n0 0).length (fun j y => ∃ i, (passing pz n0 0)[j]? = some i ∧ F i y)
              (GenAt X.prog X.w X.A.in4 a s4.gens.size s4.heap.objs.size (List.range s4.heap.objs.size) wr pz n0 F) →
            GenAt X.prog X.w X.A.in4 a s4.gens.size s4.heap.objs.size (List.range s4.heap.objs.size) wr pz n0 F 0 { s4 with gens := s4.gens.push gs, toks := tk, heap := h5 } → Q' (.ref a) { s4 with gens := s4.gens.push gs, toks := tk, heap := h5 })) X.xe { s1 with heap := h3, toks := tk } := by
    intro code h3 tk ps' hx hsz hP3 ht3 hJ
    obtain ⟨bm, ob, e1, e2, e3, e4, e5, e6, e7, e8⟩ := TB.bm
    have hcP : cStatics ≠ P := fun e => by
      obtain ⟨_, ⟨o', es, ep, ho', hd, _⟩, _⟩ := I1.nolimit
      rw [e, hPs] at ho'
      cases ho'
      cases hd
    have hcl : cStatics < s1.heap.objs.size := let ⟨_, hns, _⟩ := I1.nolimit; hns.lt
    have sz2 : (s1.heap.push o).objs.size = s1.heap.objs.size + 1 := Heap.size_push ..
    have keep3 : ∀ b u, b ≠ P → s1.heap.get? b = some u → h3.get? b = some u := fun b u hb e => hx b u hb (Heap.get?_push_of_some _ e)
    refine wpAny_builtinsFor (m := X.mg) (by rw [I1.ok.glob]; exact ((I1.mod.glob.keeps I1.bk).push o).extBut hx TB.gP) e1 e2 (keep3 _ _ e4 (I1.bk _ _ e5)) e6 e7 e8 ⟨s1.heap.objs.size, [s1.heap.objs.size, a], [s1.heap.objs.size], its.toArray.size, fun i v => its.toArray[i]? = some v,
      fun i h => h.IsTupleIter s1.heap.objs.size a i ∧ h.IsTuple a its.toArray, fun _ => true, fun i y => ∃ n, ns[i]? = some n ∧ y = .bool (pb n), rfl, fun B hB => Walks.tuple hB _ a (Nat.ne_of_lt halt) its.toArray, ?_, fun b hb => ?_, lim2.extBut hx hcP, fun z => ?_, fun hf hff => ?_, fun g h5 tk5 gs hgb hag hsz5 hk5 W5 hat => ?_⟩
    · refine ⟨⟨o, hx _ _ (fun z => ?_) (Heap.get?_push_size _ (by rw [← ho]; rfl)), ?_⟩, ?_⟩
      · have : (s1.heap.objs.size : Nat) = P := z
        rw [← this] at hPlt
        exact Nat.lt_irrefl _ hPlt
      · rw [← ho]
        exact ⟨rfl, rfl⟩
      · obtain ⟨o', e1, r⟩ := htup
        exact ⟨o', keep3 _ _ haP e1, r⟩
    · simp only [List.mem_cons, List.not_mem_nil, or_false] at hb
      show b < h3.objs.size
      have lt3 : s1.heap.objs.size < h3.objs.size := by omega
      rcases hb with z | z
      · rw [z]; exact lt3
      · rw [z]; exact Nat.lt_trans halt lt3
    · simp only [List.mem_cons, List.not_mem_nil, or_false] at z
      exact Nat.ne_of_lt hcl z
    · refine ⟨fun B E' i v s2 m2 hB hv hn hm hk => by simp only [List.forIn_nil]; exact wpAny_pure ⟨rfl, GxR.keeps_refl _⟩, fun B E' i v s2 m2 hB hv hp hn hm hk => ?_⟩
      obtain ⟨n, t, en, rfl⟩ := hval i v hv
      exact wpAny_mono (hel _ B E' n t s2 m2 rfl hn hm) (fun y s3 r => ⟨⟨n, en, r.1⟩, r.2⟩) fun _ _ e => e
    · simp only [GxR.passing_true, List.length_range] at W5
      rw [hlen] at W5
      refine hQ ns H1 g _ q1 ⟨_, _, _, _, _, W5.in4_1, by rw [hlen] at hat; exact hat, fun j y sj Qj Ej hy hQj => ?_, fun s' hm => ?_⟩
      · obtain ⟨i, hij, n, en, rfl⟩ := hy
        obtain ⟨hj, ej⟩ := List.getElem?_eq_some_iff.mp hij
        rw [List.getElem_range] at ej
        subst ej
        have e9 : atP pb ns j = pb n := by unfold atP; rw [en]; rfl
        rw [← e9]
        exact wpAny_truthy_bool hQj
      · have nwr : ∀ b u, s1.heap.get? b = some u → b ∉ h3.objs.size :: [s1.heap.objs.size] := fun b u hb z => by
          have hl := Heap.lt_size hb
          simp only [List.mem_cons, List.not_mem_nil, or_false] at z
          rcases z with z | z <;> (rw [z] at hl; first | exact absurd hl (Nat.lt_irrefl _) | exact absurd (Nat.lt_of_lt_of_le hl (by omega)) (Nat.lt_irrefl _))
        exact hJ s' (fun b u hb e => hm.heap b u (nwr b u e) (hk5 b u (keep3 b u hb e))) (hm.heap P _ (nwr P _ hPs) (hk5 P _ hP3)) (fun b u e n => hm.heap b u n (hk5 b u e)) (AllBare.movedS (I1.bare.push hgb) hm) hm.os
  refine ⟨lim2, ?_⟩
  cases hf : codeAmong gpos ps.toList with
  | none =>
    refine wpAny_genexprCodeX hco (cd.code hP2 ht) (cd.tab hP2) hf fun c' h' tk hx hge hlt hcr0 hcr htab' _ => ?_
    obtain ⟨o1, vs, f1, tf, fl, tg, inF, tx, tt, op, _, _, _, _, _, _, _, _, _, htr, _⟩ := id hcr0
    have sz2 : (s1.heap.push o).objs.size = s1.heap.objs.size + 1 := Heap.size_push ..
    have hge' : (s1.heap.push o).objs.size ≤ c' := hge
    refine cont _ h' tk _ hx (Nat.le_trans hge (Nat.le_of_lt hlt)) htab'.2 htr fun s' k hp kn hb ho => ?_
    obtain ⟨c2, oc, ws, t, e2, hoc, hd, hv⟩ := hcr
    cases e2
    have hn : c' ∉ h'.objs.size :: [s1.heap.objs.size] := fun z => by
      simp only [List.mem_cons, List.not_mem_nil, or_false] at z
      rcases z with z | z
      · rw [z] at hlt
        exact Nat.lt_irrefl _ hlt
      · rw [z, sz2] at hge'
        exact Nat.not_succ_le_self _ hge'
    have hc1 : s1.heap.objs.size ≤ c' := Nat.le_trans (by rw [sz2]; exact Nat.le_succ _) hge'
    have J := inv_tabc (q := X.env.qual ++ "<genexpr>") (h' := s'.heap) (g' := s'.gens) (d' := s'.drawn) (t' := s'.toks) I1 hP k hp hb hc1 ⟨oc, ws, t, kn c' oc hoc hn, hd, hv⟩
    rw [GxR.sh_eta s1 s' ho] at J
    exact ⟨_, grows_new hP (I1.hok.fresh hc1) ht, J⟩
  | some cv =>
    refine wpAny_genexprCode_hit hco (cd.code hP2 ht) hf (cont cv (s1.heap.push o) s1.toks ps (Heap.ExtBut.refl _ _) (Nat.le_refl _) hP2 ht fun s' k hp kn hb ho => ?_)
    have J := GxR.inv_tab (more := #[]) (h' := s'.heap) (g' := s'.gens) (d' := s'.drawn) (t' := s'.toks) I1 hP k (by rw [Array.append_empty]; exact hp) hb
    rw [GxR.sh_eta s1 s' ho, show upd H1 P (.tbl (ps ++ #[])) = H1 by
      funext b
      by_cases hb : b = P
      · rw [hb, upd_same, hP, Array.append_empty]
      · exact upd_ne hb] at J
    exact ⟨H1, Grows.refl _ _ _, J⟩
/-- any(.. for x in e), e a tuple of ints -/
def tAnyI (K : PySem.W.Frag) (P : Addr) (q : Str) (pb : Int → Bool) (te : TE) : TE := fun σ H Q => te σ H fun v H1 => ∃ (a : Addr) (ns : List Int), v = .ref a ∧ SqT K H1 a (ns.map V.int) ∧ (∃ ps : Array Value, H1 P = some (.tbl ps) ∧ TriplesOk ps.toList) ∧ ∀ H2, Grows P q H1 H2 → Q (.bl (ns.any pb)) H2
theorem pe_anyI (K : PySem.W.Frag) (hK : X.K = K) (qn : Str) (hqn : X.env.qual = qn) {c P : Addr} {elt iter : Expr} {x : Str} {px p pos gpos : Pos} {sc : Scope} {pb : Int → Bool} {te : TE} {k : Nat} (hr : Room k X.A) (hg : Gl X "any") (hm : X.mg "any" = none) (TB : GxR.TabB X.base X.mg c P) (hco : X.env.code = .ref c) (S : GxR.GenS X.env sc x)
    (hel : EltI X.prog X.w sc x elt pb) (hi : PE X iter te) (hs : ∀ v, genFold iter X.env v = pure v := by intro _; rfl)
    (he : starEach [.GeneratorExp elt [⟨.Name x px, iter, [], 0⟩] sc gpos] X.env = (false, eval (.GeneratorExp elt [⟨.Name x px, iter, [], 0⟩] sc gpos) X.env) :: starEach [] X.env := by rfl) :
    PE X (.Call (.Name "any" p) [.GeneratorExp elt [⟨.Name x px, iter, [], 0⟩] sc gpos] [] pos) (tAnyI K P (qn ++ "<genexpr>") pb te) := by
  subst hK hqn
  refine ⟨fun pins s σ H Q I h => wpAny_Call_Name_kw (ld_blt I hg hm boot_any (PyProof.Rows.callWith_builtin1 ?_ he (by rfl)))⟩
  rw [he]
  show wpAny _ _ (spliced ((false, eval (.GeneratorExp elt [⟨.Name x px, iter, [], 0⟩] sc gpos) X.env) :: backTo pos (starEach [] X.env))) _ _ s
  refine Calls.spliced_cons (gen_ints (R := fun ns H1 => ∀ H2, Grows P (X.env.qual ++ "<genexpr>") H1 H2 → Q (.bl (ns.any pb)) H2) hr TB hco S hi hel hs I h fun ns H1 g s5 hR ⟨fp, wr, G, F, Sx, W, hst, htr, hI⟩ => Calls.spliced_nil (call_any_walkS (W.self 0 _ _ _ hst ⟨g, fp, wr, G, _, F, Sx, _, rfl, W, hst, htr, fun s' hmv => ?_⟩)))
  obtain ⟨H2, hT, J⟩ := hI s' hmv
  refine ⟨.bl _, H2, J, rfl, ?_⟩
  rw [atP_any]
  exact hR H2 hT
end
section
variable {c : Ct} {Γ : List Sl} {Φ : Dt → List Sl → Prop} {te : TE}
theorem is_ints {K : PySem.W.Frag} {F : Hp} {ns : List Int} {vs : List V} (h : IsL K F vs (ns.map Dt.int)) : vs = ns.map V.int := IsL.of_ints h
theorem w_anyI {P : Addr} {q : Str} {pb : Int → Bool} (hP : (P, q) ∈ c.T.l) (hu : ∀ x ∈ c.T.l, x.1 = P → x.2 = q) (hg : c.T.g = []) (h : Wp c te Γ fun x Γ1 => ∃ ns : List Int, x = .tup (ns.map Dt.int) ∧ Φ (.bl (ns.any pb)) Γ1) : Wp c (tAnyI c.K P q pb te) Γ Φ := fun Z M H σ R O E Q k =>
  h Z M H σ R O E _ fun v x Γ1 M1 H1 ⟨ns, e, p⟩ E1 ix => by
    subst e
    obtain ⟨a, vs, rfl, h1, h1', i1⟩ := sqT_is ix
    have ev := is_ints i1
    subst ev
    have tb := O.tab E1
    obtain ⟨ps, t1, t2, _⟩ := tb.1 _ hP
    exact ⟨a, ns, rfl, h1, ⟨ps, t1, t2⟩, fun H2 gr => k _ _ Γ1 M1 H2 p (E1.extY (O.ey ⟨gr.1, fun t => ⟨gr.2 _ hP hu t.1, fun P2 hP2 => by rw [hg] at hP2; cases hP2⟩⟩)) .bl⟩
end
end DL
/-! DL8: objects of our own handed on, read, frozen; the law's own def -/
namespace DL
open PySem L2 Evl
section
variable {K : PySem.W.Frag} {zs : List Nat} {Z : Zn} {M : List Addr} {H H' : Hp} {σ : L2.St} {Γ : List Sl} {R R' : Hp → Prop}
/-- all but the object at a, our own in slot i, stays -/
theorem En.eb (E : En K zs Z M H σ Γ R) {i : Nat} {a : Addr} {d d' : Dt} (hi : Γ[i]? = some (.ow d)) (ha : σ[i]? = some (some (.ref a))) (e : Eb Z.T a H H') (ob : Ob K (Fz M H') H' a d') : En K zs Z M H' σ (Γ.set i (.ow d')) R := by
  obtain ⟨a2, s2, aM, ac, _⟩ := E.ow i d hi
  rw [ha] at s2
  cases s2
  have hl : i < Γ.length := (List.getElem?_eq_some_iff.mp hi).1
  have eF : Ex (Fz M H) (Fz M H') := fun b o h => by
    have h2 := Fz.nm h
    exact Fz.step h (fun u q n => e.1 b u (fun z => h2 (by rw [z]; exact aM)) q n) h2
  refine ⟨by rw [List.length_set]; exact E.len, fun j x h => ?_, fun j x h => ?_, fun j l b d1 d2 n h1 h2 h3 h4 => ?_, E.rm _ _ eF E.tmp, E.rm, E.sub, fun b hb => ?_, fun b u h n t => ?_, e.2 E.tab, E.zs, fun j b h => ?_⟩
  · by_cases hj : j = i
    · subst hj
      rw [List.getElem?_set_self hl] at h
      cases h
    · rw [List.getElem?_set_ne (Ne.symm hj)] at h
      obtain ⟨v, h1, h2⟩ := E.im j x h
      exact ⟨v, h1, h2.mono eF⟩
  · by_cases hj : j = i
    · subst hj
      rw [List.getElem?_set_self hl] at h
      cases h
      exact ⟨a, ha, aM, ac, ob⟩
    · rw [List.getElem?_set_ne (Ne.symm hj)] at h
      obtain ⟨b, h1, h2, h3, h4⟩ := E.ow j x h
      have nb : b ≠ a := fun e2 => by
        subst e2
        exact E.dis j i b x d hj h hi h1 ha
      exact ⟨b, h1, h2, h3, h4.mono eF fun u n q => e.1 b u nb q n⟩
  · have back : ∀ {m : Nat} {x : Dt}, (Γ.set i (.ow d'))[m]? = some (.ow x) → ∃ x', Γ[m]? = some (.ow x') := fun {m x} h => by
      by_cases hm : m = i
      · subst hm
        exact ⟨d, hi⟩
      · rw [List.getElem?_set_ne (Ne.symm hm)] at h
        exact ⟨x, h⟩
    obtain ⟨e1, g1⟩ := back h1
    obtain ⟨e2, g2⟩ := back h2
    exact E.dis j l b e1 e2 n g1 g2 h3 h4
  · by_cases hb2 : b = a
    · rw [hb2]
      cases d' with
      | lst ds => obtain ⟨vs, q, _⟩ := ob; exact ⟨_, q, plain_lst⟩
      | dK ks ds => obtain ⟨vs, q, _⟩ := ob; exact ⟨_, q, plain_dK⟩
      | dT ks ds => obtain ⟨vs, q, _⟩ := ob; exact ⟨_, q, plain_dT⟩
      | ins C ns ds => obtain ⟨dx, vs, q, _⟩ := ob; exact ⟨_, q, plain_ins⟩
      | _ => exact ob.elim
    · obtain ⟨o, h1, h2⟩ := E.trk b hb
      exact ⟨o, e.1 b o hb2 h1 h2.1, h2⟩
  · have nb : b ≠ a := fun z => by
      subst z
      rcases ac with ⟨j, q⟩ | ⟨q, _⟩
      · exact n j q
      · exact q u t h
    exact e.1 b u nb (E.pres b u h n t) t
  · obtain ⟨a1, a3, x, a4⟩ := E.iok j b h
    refine ⟨a1, a3, ?_⟩
    by_cases hj : j = i
    · subst hj
      exact ⟨d', List.getElem?_set_self hl⟩
    · exact ⟨x, by rw [List.getElem?_set_ne (Ne.symm hj)]; exact a4⟩
end
section
variable {c : Ct} {Γ : List Sl} {Φ : Dt → List Sl → Prop} {ΦA : List Dt → List Sl → Prop} {Ψ : Out → Prop} {te : TE} {tr : TA}
theorem Ct.Ok.outB {Z : Zn} {M : List Addr} {H H' : Hp} {σ : L2.St} {R : Hp → Prop} (O : c.Ok Z) (E : En c.K c.zs Z M H σ Γ R) {i : Nat} {a : Addr} {d : Dt} (hi : Γ[i]? = some (.ow d)) (ha : σ[i]? = some (some (.ref a))) (e : EbX c.T a H H') {cls : Addr} (p : c.P cls) : c.E (.ref cls) none H' := by
  obtain ⟨a2, s2, aM, ac, _⟩ := E.ow i d hi
  rw [ha] at s2
  cases s2
  refine O.x cls H' p (fun b o hb n t => e.1 b o (fun z => ?_) (E.pres b o hb n t) t) (by rw [O.t]; exact e.2 (by rw [← O.t]; exact E.tab))
  subst z
  rcases ac with ⟨j, q⟩ | ⟨q, _⟩
  · exact n j q
  · exact q o t hb
/-- a def called with an object of our own, which it may change -/
theorem w_callI {pm : PmI} {i : Nat} {dvs : List V} {dds : List Dt} (hd : ∀ F, IsL c.K F dvs dds) (h0 : ∃ d, Γ[i]? = some (.ow d)) (h : Wa c tr Γ fun ds Γ1 => ∃ d0, Γ1[i]? = some (.ow d0) ∧ pm d0 (ds ++ dds) (fun d d1 => Φ d (Γ1.set i (.ow d1))) c.P) :
    Wp c (tCall (spI c.K c.T pm) dvs c.E (tCons (tVar i) tr)) Γ Φ := fun Z M H σ R O E Q k => by
  obtain ⟨d, hd0⟩ := h0
  obtain ⟨a, s1, _⟩ := E.ow i d hd0
  refine ⟨_, s1, h Z M H σ R O E _ fun vs ds Γ1 M1 H1 ⟨d0, g1, h1⟩ E1 iv => ?_⟩
  obtain ⟨a2, s2, aM, _, ob⟩ := E1.ow i d0 g1
  rw [s1] at s2
  cases s2
  refine ⟨O.tab E1, a, vs ++ dvs, M1, d0, ds ++ dds, _, _, rfl, aM, E1.trk, ob, iv.append (hd _), h1, fun v d d1 H' p e ob' i => ?_, fun cls H' p e => O.outB E1 g1 s1 e p⟩
  exact k v d _ M1 H' p (E1.eb g1 s1 (by rw [O.t]; exact e) ob') i
theorem w_callI0 {pm : PmI} {i : Nat} {dvs : List V} {dds : List Dt} (hd : ∀ F, IsL c.K F dvs dds) (h0 : ∃ d, Γ[i]? = some (.ow d)) (h : Wa c tr Γ fun ds Γ1 => ∃ d0, Γ1[i]? = some (.ow d0) ∧ pm d0 (ds ++ dds) (fun d d1 => Φ d (Γ1.set i (.ow d1))) fun _ => False) :
    Wp c (tCall (spI c.K c.T pm) dvs E0 (tCons (tVar i) tr)) Γ Φ := fun Z M H σ R O E Q k => by
  obtain ⟨d, hd0⟩ := h0
  obtain ⟨a, s1, _⟩ := E.ow i d hd0
  refine ⟨_, s1, h Z M H σ R O E _ fun vs ds Γ1 M1 H1 ⟨d0, g1, h1⟩ E1 iv => ?_⟩
  obtain ⟨a2, s2, aM, _, ob⟩ := E1.ow i d0 g1
  rw [s1] at s2
  cases s2
  refine ⟨O.tab E1, a, vs ++ dvs, M1, d0, ds ++ dds, _, _, rfl, aM, E1.trk, ob, iv.append (hd _), h1, fun v d d1 H' p e ob' i => ?_, fun cls H' p e => p.elim⟩
  exact k v d _ M1 H' p (E1.eb g1 s1 (by rw [O.t]; exact e) ob') i

/-! ### own objects read -/
def Sl.pure : Sl → Sl
  | .ow d => .im d
  | s => s
theorem Ob.is {K : PySem.W.Frag} {F F' H : Hp} {a : Addr} {d : Dt} (ob : Ob K F H a d) (e : Ex F F') (ha : ∀ o, hidTbl (some o) = some o → H a = some o → F' a = some o) : Is K F' (.ref a) d := by
  cases d with
  | lst ds => obtain ⟨vs, h1, h2⟩ := ob; exact .lst (ha _ rfl h1) (h2.mono e)
  | dK ks ds => obtain ⟨vs, h1, l, h2⟩ := ob; exact .dK (ha _ rfl h1) l (h2.mono e)
  | dT ks ds => obtain ⟨vs, h1, l, h2⟩ := ob; exact .dT (ha _ rfl h1) l (h2.mono e)
  | ins C ns ds => obtain ⟨dx, vs, h1, l, h2⟩ := ob; exact .ins (ha _ rfl h1) l (h2.mono e)
  | _ => exact ob.elim
/-- data that needs no heap -/
inductive Scal : Dt → Prop
  | non : Scal .non
  | bl {b} : Scal (.bl b)
  | int {i} : Scal (.int i)
  | str {x} : Scal (.str x)
theorem Scal.is {K : PySem.W.Frag} {F F' : Hp} {v : V} {d : Dt} (s : Scal d) (h : Is K F v d) : Is K F' v d := by
  cases s <;> cases h
  · exact .non
  · exact .bl
  · exact .int
  · exact .str
/-- .. where all of our own is looked at alone -/
theorem w_pure (h : Wp ⟨c.K, c.T, [], c.E, c.P, False⟩ te (Γ.map Sl.pure) fun z Γ1 => Scal z ∧ Φ z Γ) : Wp c te Γ Φ := fun Z M H σ R O E Q k => by
  have ex : Ex (Fz M H) (Fz [] H) := fun b o q => Fz.step q (fun _ q' _ => q') (by simp)
  have E' : En c.K [] ⟨H, [], [], Z.T⟩ [] H σ (Γ.map Sl.pure) (fun _ => True) := by
    refine ⟨by rw [List.length_map]; exact E.len, fun i d q => ?_, fun i d q => ?_, fun i j a d e n q => ?_, trivial, fun _ _ _ _ => trivial, fun b q => by simp at q, fun b q => by simp at q, fun _ _ q _ _ => q, E.tab, rfl, fun _ _ q => by simp at q⟩
    · rw [List.getElem?_map] at q
      cases e : Γ[i]? with
      | none => rw [e] at q; cases q
      | some s =>
        rw [e] at q
        cases s with
        | un => cases q
        | im d' =>
          cases q
          obtain ⟨v, h1, h2⟩ := E.im i d e
          exact ⟨v, h1, h2.mono ex⟩
        | ow d' =>
          cases q
          obtain ⟨a, h1, h2, h3, ob⟩ := E.ow i d e
          exact ⟨_, h1, ob.is ex fun o n q => Fz.mkN q (by simp) n⟩
    · rw [List.getElem?_map] at q
      cases e : Γ[i]? with
      | none => rw [e] at q; cases q
      | some s => rw [e] at q; cases s <;> cases q
    · rw [List.getElem?_map] at q
      cases e : Γ[i]? with
      | none => rw [e] at q; cases q
      | some s => rw [e] at q; cases s <;> cases q
  refine h ⟨H, [], [], Z.T⟩ [] H σ _ ⟨O.t, fun cls H' p f tb => O.x cls H' p (fun a o q n t => f a o (E.pres a o q n t) (fun j => by simp) t) tb, False.elim⟩ E' Q fun v d Γ' M' H' ⟨sc, p⟩ E2 iv => ?_
  refine k v d Γ M H' p (E.extY ⟨fun b o q n => E2.pres b o q (fun j => by simp) n, fun _ => E2.tab⟩) (sc.is iv)
/-- an object of our own that changes no more -/
theorem s_freeze {ts : TS} {j : Nat} {d : Dt} (hj : Γ[j]? = some (.ow d)) (hz : c.zs = []) (h : Ws c ts (Γ.set j (.im d)) Ψ) : Ws c ts Γ Ψ := fun Z M H σ R D O E G => by
  obtain ⟨a, s1, aM, ac, ob⟩ := E.ow j d hj
  have hio : Z.io = [] := by
    have := E.zs
    rw [hz] at this
    exact List.map_eq_nil_iff.mp this
  have hl : j < Γ.length := (List.getElem?_eq_some_iff.mp hj).1
  have aB : a ∉ Z.B := by
    rcases ac with ⟨i, q⟩ | ⟨_, q⟩
    · rw [hio] at q; cases q
    · exact q
  have ex : Ex (Fz M H) (Fz (M.filter (· ≠ a)) H) := fun b o q => Fz.step q (fun _ q' _ => q') fun z => Fz.nm q (List.mem_filter.mp z).1
  refine h Z (M.filter (· ≠ a)) H σ R D O ⟨by rw [List.length_set]; exact E.len, fun i x q => ?_, fun i x q => ?_, fun i l b d1 d2 n h1 h2 h3 h4 => ?_, E.rm _ _ ex E.tmp, E.rm, fun b hb => ?_, fun b hb => E.trk b (List.mem_filter.mp hb).1, E.pres, E.tab, E.zs, fun i b q => by rw [hio] at q; cases q⟩ G
  · by_cases hi : i = j
    · subst hi
      rw [List.getElem?_set_self hl] at q
      cases q
      exact ⟨_, s1, ob.is ex fun o n q => Fz.mkN q (by simp) n⟩
    · rw [List.getElem?_set_ne (Ne.symm hi)] at q
      obtain ⟨v, h1, h2⟩ := E.im i x q
      exact ⟨v, h1, h2.mono ex⟩
  · by_cases hi : i = j
    · subst hi
      rw [List.getElem?_set_self hl] at q
      cases q
    · rw [List.getElem?_set_ne (Ne.symm hi)] at q
      obtain ⟨b, h1, h2, h3, h4⟩ := E.ow i x q
      have nb : b ≠ a := fun z => by
        subst z
        exact E.dis i j b x d hi q hj h1 s1
      exact ⟨b, h1, List.mem_filter.mpr ⟨h2, by simp [nb]⟩, h3, h4.mono ex fun _ _ q => q⟩
  · have back : ∀ {m : Nat} {x : Dt}, (Γ.set j (.im d))[m]? = some (.ow x) → Γ[m]? = some (.ow x) := fun {m x} h => by
      by_cases hm : m = j
      · subst hm
        rw [List.getElem?_set_self hl] at h
        cases h
      · rw [List.getElem?_set_ne (Ne.symm hm)] at h
        exact h
    exact E.dis i l b d1 d2 n (back h1) (back h2) h3 h4
  · exact List.mem_filter.mpr ⟨E.sub b hb, by simp; exact fun z => aB (by rw [← z]; exact hb)⟩

/-! ### own objects made -/
def Wn (c : Ct) (te : TE) (Γ : List Sl) (Φ : Dt → List Sl → Prop) : Prop :=
  ∀ Z M H σ R, c.Ok Z → En c.K c.zs Z M H σ Γ R → ∀ Q : VK, (∀ p d Γ' M' H', Φ d Γ' → En c.K c.zs Z M' H' σ Γ' R → p ∈ M' → (∀ u, noTbl u → Z.H0 p ≠ some u) → p ∉ Z.B → (∀ (j : Nat) (e : Dt), Γ'[j]? = some (.ow e) → σ[j]? ≠ some (some (.ref p))) → Ob c.K (Fz M' H') H' p d → Q (.ref p) H') → te σ H Q
theorem Wn.mono {Φ' : Dt → List Sl → Prop} (h : Wn c te Γ Φ) (m : ∀ d Γ', Φ d Γ' → Φ' d Γ') : Wn c te Γ Φ' := fun Z M H σ R O E Q q => h Z M H σ R O E Q fun v d Γ' M' H' p => q v d Γ' M' H' (m d Γ' p)
end
section
variable {K : PySem.W.Frag} {zs : List Nat} {Z : Zn} {M : List Addr} {H H' : Hp} {σ : L2.St} {Γ : List Sl} {R R' : Hp → Prop}
/-- a new object, of our own from now on -/
theorem En.fresh (E : En K zs Z M H σ Γ R) {p : Addr} {o : HO} (hp : H p = none) (n : plainO o) : En K zs Z (p :: M) (upd H p o) σ Γ R ∧ Ex (Fz M H) (Fz (p :: M) (upd H p o)) := by
  have ne : ∀ b u, H b = some u → b ≠ p := fun b u h => ne_of_none h hp
  have ex : Ex (Fz M H) (Fz (p :: M) (upd H p o)) := fun b u q => by
    obtain ⟨w, q1, _⟩ := Fz.src q
    exact Fz.step q (fun v q' _ => by rw [upd_ne (ne b v q')]; exact q') (by simp [Fz.nm q, ne b w q1])
  refine ⟨⟨E.len, fun i d h => ?_, fun i d h => ?_, E.dis, E.rm _ _ ex E.tmp, E.rm, fun b hb => List.mem_cons_of_mem _ (E.sub b hb), fun b hb => ?_, fun b u h m t => ?_, E.tab.ext (Ex.new hp), E.zs, E.iok⟩, ex⟩
  · obtain ⟨v, h1, h2⟩ := E.im i d h
    exact ⟨v, h1, h2.mono ex⟩
  · obtain ⟨b, h1, h2, h3, h4⟩ := E.ow i d h
    obtain ⟨u, hu, _⟩ := E.trk b h2
    exact ⟨b, h1, List.mem_cons_of_mem _ h2, h3, h4.mono ex fun w _ q => by rw [upd_ne (ne b u hu)]; exact q⟩
  · rcases List.mem_cons.mp hb with z | z
    · rw [z]; exact ⟨o, upd_same, n⟩
    · obtain ⟨u, hu, nu⟩ := E.trk b z
      exact ⟨u, by rw [upd_ne (ne b u hu)]; exact hu, nu⟩
  · have := E.pres b u h m t
    rw [upd_ne (ne b u this)]
    exact this
theorem En.setO (E : En K zs Z M H σ Γ R) {p : Addr} {d : Dt} (pM : p ∈ M) (p0 : ∀ u, noTbl u → Z.H0 p ≠ some u) (pB : p ∉ Z.B) (nd : ∀ (j : Nat) (e : Dt), Γ[j]? = some (.ow e) → σ[j]? ≠ some (some (.ref p))) (ob : Ob K (Fz M H) H p d) {i : Nat} (hi : i < Γ.length) (hz : i ∉ zs) :
    En K zs Z M H (σ.set i (some (.ref p))) (Γ.set i (.ow d)) R := by
  have hs : i < σ.length := by rw [E.len]; exact hi
  have nz : ∀ j a, (j, a) ∈ Z.io → j ≠ i := fun j a h e => hz (by rw [← E.zs, ← e]; exact List.mem_map.mpr ⟨(j, a), h, rfl⟩)
  refine ⟨by rw [List.length_set, List.length_set]; exact E.len, fun j e h => ?_, fun j e h => ?_, fun j l a e1 e2 n h1 h2 h3 h4 => ?_, E.tmp, E.rm, E.sub, E.trk, E.pres, E.tab, E.zs, fun j a h => ?_⟩
  · by_cases hj : j = i
    · subst hj
      rw [List.getElem?_set_self hi] at h
      cases h
    · rw [List.getElem?_set_ne (Ne.symm hj)] at h ⊢
      exact E.im j e h
  · by_cases hj : j = i
    · subst hj
      rw [List.getElem?_set_self hi] at h
      cases h
      exact ⟨p, List.getElem?_set_self hs, pM, .inr ⟨p0, pB⟩, ob⟩
    · rw [List.getElem?_set_ne (Ne.symm hj)] at h ⊢
      exact E.ow j e h
  · by_cases hj : j = i
    · subst hj
      rw [List.getElem?_set_self hs] at h3
      cases h3
      rw [List.getElem?_set_ne n] at h2 h4
      exact nd l e2 h2 h4
    · by_cases hl : l = i
      · subst hl
        rw [List.getElem?_set_self hs] at h4
        cases h4
        rw [List.getElem?_set_ne (Ne.symm n)] at h1 h3
        exact nd j e1 h1 h3
      · rw [List.getElem?_set_ne (Ne.symm hj)] at h1 h3
        rw [List.getElem?_set_ne (Ne.symm hl)] at h2 h4
        exact E.dis j l a e1 e2 n h1 h2 h3 h4
  · obtain ⟨a1, a2, e, a3⟩ := E.iok j a h
    have n := nz j a h
    exact ⟨a1, by rw [List.getElem?_set_ne (Ne.symm n)]; exact a2, e, by rw [List.getElem?_set_ne (Ne.symm n)]; exact a3⟩
end
section
variable {c : Ct} {Γ : List Sl} {Φ : Dt → List Sl → Prop} {Ψ : Out → Prop} {te : TE} {ta : TA}
/-- a name takes an object of our own -/
theorem s_asgN {i : Nat} (hi : (Γ[i]?).isSome = true) (hz : c.zs.contains i = false) (h : Wn c te Γ fun d Γ1 => Γ1.length = Γ.length ∧ Ψ (.nx (Γ1.set i (.ow d)))) : Ws c (tAsg te (gName i)) Γ Ψ := fun Z M H σ R D O E G => by
  refine h Z M H σ R O E _ fun p d Γ1 M1 H1 ⟨hl, q⟩ E1 pM p0 pB nd ob => G.nx _ _ M1 H1 q (E1.setO pM p0 pB nd ob ?_ ?_)
  · rw [hl]
    cases e : Γ[i]? with
    | none => rw [e] at hi; cases hi
    | some x => exact (List.getElem?_eq_some_iff.mp e).1
  · intro q
    rw [List.contains_iff_mem.mpr q] at hz
    cases hz
theorem n_core {Z : Zn} {M : List Addr} {H : Hp} {σ : L2.St} {R : Hp → Prop} (E : En c.K c.zs Z M H σ Γ R) {p : Addr} {o : HO} {d : Dt} {Q : VK} (hp : H p = none) (n : plainO o) (ob : Ob c.K (Fz (p :: M) (upd H p o)) (upd H p o) p d)
    (k : ∀ M' H', En c.K c.zs Z M' H' σ Γ R → p ∈ M' → (∀ u, noTbl u → Z.H0 p ≠ some u) → p ∉ Z.B → (∀ (j : Nat) (e : Dt), Γ[j]? = some (.ow e) → σ[j]? ≠ some (some (.ref p))) → Ob c.K (Fz M' H') H' p d → Q (.ref p) H') : Q (.ref p) (upd H p o) := by
  obtain ⟨E', ex⟩ := E.fresh hp n
  have nM := Trk.ne E.trk hp
  refine k _ _ E' List.mem_cons_self ?_ (fun z => nM (E.sub p z)) (fun j e hj hs => ?_) ob
  · intro u t h0
    have := E.pres p u h0 (fun j q => nM (E.sub p (E.iok j p q).1)) t
    rw [hp] at this
    cases this
  · obtain ⟨a, h1, h2, _⟩ := E.ow j e hj
    rw [hs] at h1
    cases h1
    exact nM h2
theorem n_lst (h : Wa c ta Γ fun ds Γ1 => ds.length ≤ sizeLine ∧ Φ (.lst ds) Γ1) : Wn c (tLst ta) Γ Φ := fun Z M H σ R O E Q k =>
  h Z M H σ R O E _ fun vs ds Γ1 M1 H1 ⟨hl, h1⟩ E1 i => ⟨by rw [i.length]; exact hl, fun p hp => n_core (d := .lst ds) E1 hp plain_lst ⟨vs, upd_same, i.mono (E1.fresh hp plain_lst).2⟩ fun M' H' E' a b d e f => k p _ Γ1 M' H' h1 E' a b d e f⟩
end
section
variable {K : PySem.W.Frag} {P : Dt → Prop} {i j : Int}
theorem rd_mulR (hc : -18446744073709551616 < j ∧ j < 18446744073709551616) (h : P (.int (i * j))) : RD K rMulI (.int i) (.int j) P := rd_mul (.inr hc) h
theorem rd_mulL (hc : -18446744073709551616 < i ∧ i < 18446744073709551616) (h : P (.int (i * j))) : RD K rMulI (.int i) (.int j) P := rd_mul (.inl hc) h
theorem rd_powC (hc : 0 ≤ j ∧ j ≤ 1000000 ∧ i.natAbs < 18446744073709551616) (h : P (.int (i ^ j.toNat))) : RD K rPowI (.int i) (.int j) P := rd_pow hc h
end
section
variable {c : Ct} {Γ : List Sl} {Φ : Dt → List Sl → Prop} {te : TE} {t : TT}
/-- a comprehension: what holds of each item, what of the names -/
theorem w_lcN {wi : TI} {g : TG} {vs : List Nat} (hv : vs.all (fun i => !c.zs.contains i) = true) (tg : Tgt g vs) (Pe : Dt → Prop) (G : List Sl → Prop)
    (h : Wi c wi Γ fun xs Γ1 => xs.length ≤ sizeLine ∧ G (wipeG Γ1 vs) ∧ (∀ (i : Nat) (d : Dt) (Γ' : List Sl), xs[i]? = some d → G Γ' → Wg c.no g d Γ' fun Γ2 => Wt c.no t Γ2 fun b Γ3 => b = true ∧ Wp c.no te Γ3 fun e Γ4 => Pe e ∧ G (wipeG Γ4 vs)) ∧
      ∀ acc Γ', acc.length = xs.length → (∀ e ∈ acc, Pe e) → G Γ' → Φ (.lst acc) Γ') : Wp c (tLc wi g t te vs) Γ Φ := by
  refine w_lc (fun i hi hz => ?_) tg ?_
  · have q := List.all_eq_true.mp hv i hi
    rw [List.contains_iff_mem.mpr hz] at q
    cases q
  · refine fun Z M H σ R O E Q k => h Z M H σ R O E Q fun J W S xs Γ1 M1 H1 ⟨hl, g0, hs, hf⟩ src hW E1 => k J W S xs Γ1 M1 H1 ⟨hl, fun i acc Γ' => acc.length = i ∧ (∀ e ∈ acc, Pe e) ∧ G Γ', ⟨rfl, by simp, g0⟩, ?_, ?_⟩ src hW E1
    · rintro i d acc Γ' ed ⟨rfl, hp, hg⟩
      refine (hs _ d Γ' ed hg).mono fun Γ2 h2 => Wt.mono h2 fun b Γ3 ⟨hb, h3⟩ => ?_
      subst hb
      refine iteT (h3.mono fun o Γ4 ⟨po, g4⟩ => ⟨by simp, fun e he => ?_, g4⟩)
      rcases List.mem_append.mp he with q | q
      · exact hp e q
      · rw [List.mem_singleton.mp q]; exact po
    · rintro acc Γ' _ ⟨e1, e2, e3⟩
      exact hf acc Γ' e1 e2 e3
theorem ints_of {p : Int → Prop} : ∀ {acc : List Dt}, (∀ e ∈ acc, ∃ x, e = .int x ∧ p x) → ∃ ns : List Int, acc = ns.map Dt.int ∧ ns.length = acc.length ∧ ∀ x ∈ ns, p x
  | [], _ => ⟨[], rfl, rfl, by simp⟩
  | e :: r, h => by
    obtain ⟨x, rfl, px⟩ := h e (by simp)
    obtain ⟨ns, e1, e2, e3⟩ := ints_of (acc := r) fun y hy => h y (List.mem_cons_of_mem _ hy)
    refine ⟨x :: ns, by rw [e1]; rfl, by simp [e2], fun y hy => ?_⟩
    rcases List.mem_cons.mp hy with q | q
    · rw [q]; exact px
    · exact e3 y q
end
end DL
/-! DL9: dicts -/
namespace DL
open PySem L2 Evl
def IsDct (u : HO) : Prop := (∃ k, u = .dK k) ∨ ∃ k, u = .dT k
theorem IsDct.plain {u : HO} (h : IsDct u) : plainO u := by
  rcases h with ⟨k, rfl⟩ | ⟨k, rfl⟩
  · exact plain_dK
  · exact plain_dT
theorem IsDct.hid {u : HO} (h : IsDct u) (od : Obj) : hidTbl (some (.frz od u)) = some u ∧ hidTbl (some u) = some u := by
  rcases h with ⟨k, rfl⟩ | ⟨k, rfl⟩ <;> exact ⟨rfl, rfl⟩
theorem IsDct.mu {u : HO} (h : IsDct u) : Mut (some u) := by
  rcases h with ⟨k, rfl⟩ | ⟨k, rfl⟩ <;> trivial
theorem plain_frz {od : Obj} {u : HO} : plainO (.frz od u) := ⟨fun ps z => (by cases z), fun c q z => (by unfold LamX.CodeO at z; cases z)⟩
/-- the zone in which the dict at a is marked as walked -/
def Zn.mark (Z : Zn) (a : Addr) (o : HO) : Zn := ⟨upd Z.H0 a o, Z.B, Z.io, Z.T⟩
section
variable {K : PySem.W.Frag} {zs : List Nat} {Z : Zn} {M : List Addr} {H : Hp} {σ : L2.St} {Γ : List Sl} {R : Hp → Prop} {a : Addr} {u : HO} {od : Obj}
theorem fz_mark (hu : IsDct u) (ha : H a = some u) : Fz M (upd H a (.frz od u)) = Fz M H := by
  funext b
  unfold Fz
  by_cases hb : b ∈ M
  · rw [if_pos hb, if_pos hb]
  · rw [if_neg hb, if_neg hb]
    by_cases e : b = a
    · rw [e, upd_same, ha, (hu.hid od).1, (hu.hid od).2]
    · rw [upd_ne e]
theorem En.lockW (E : En K zs Z M H σ Γ R) (hu : IsDct u) (ha : H a = some u) (aM : a ∉ M) : En K zs (Z.mark a (.frz od u)) M (upd H a (.frz od u)) σ Γ R := by
  have ne : ∀ b, b ∈ M → b ≠ a := fun b hb e => aM (by rw [← e]; exact hb)
  refine ⟨E.len, fun i d h => ?_, fun i d h => ?_, E.dis, ?_, E.rm, E.sub, fun b hb => ?_, fun b o h n t => ?_, tabs_upd ha hu.plain E.tab, E.zs, E.iok⟩
  · rw [fz_mark hu ha]
    exact E.im i d h
  · rw [fz_mark hu ha]
    obtain ⟨b, h1, h2, h3, h4⟩ := E.ow i d h
    refine ⟨b, h1, h2, ?_, h4.mono (Ex.refl _) fun o _ q => by rw [upd_ne (ne b h2)]; exact q⟩
    rcases h3 with h3 | ⟨h3, h5⟩
    · exact .inl h3
    · exact .inr ⟨fun o t => by show upd Z.H0 a _ b ≠ some o; rw [upd_ne (ne b h2)]; exact h3 o t, h5⟩
  · rw [fz_mark hu ha]
    exact E.tmp
  · obtain ⟨o, h1, h2⟩ := E.trk b hb
    exact ⟨o, by rw [upd_ne (ne b hb)]; exact h1, h2⟩
  · have h' : upd Z.H0 a (.frz od u) b = some o := h
    by_cases e : b = a
    · rw [e, upd_same] at h' ⊢
      exact h'
    · rw [upd_ne e] at h' ⊢
      exact E.pres b o h' n t
theorem En.marked (E : En K zs (Z.mark a (.frz od u)) M H σ Γ R) (hio : ∀ j, (j, a) ∉ Z.io) : H a = some (.frz od u) := E.pres a _ (show upd Z.H0 a _ a = _ from upd_same) hio plain_frz.1
theorem En.unlockW (E : En K zs (Z.mark a (.frz od u)) M H σ Γ R) (hu : IsDct u) (hio : ∀ j, (j, a) ∉ Z.io) (aB : a ∉ Z.B) (h0 : ∀ o, Z.H0 a = some o → noTbl o → o = u) :
    En K zs Z (M.filter (· ≠ a)) (upd H a u) σ Γ R ∧ Ex (Fz M H) (Fz (M.filter (· ≠ a)) (upd H a u)) := by
  have ha := E.marked hio
  have ex : Ex (Fz M H) (Fz (M.filter (· ≠ a)) (upd H a u)) := fun b o h => by
    by_cases e : b = a
    · subst e
      have h1 := Fz.hid h
      rw [ha, (hu.hid od).1] at h1
      cases h1
      exact Fz.mkN upd_same (by simp) (hu.hid od).2
    · exact Fz.step h (fun o' q _ => by rw [upd_ne e]; exact q) fun z => Fz.nm h (List.mem_filter.mp z).1
  refine ⟨⟨E.len, fun i d h => ?_, fun i d h => ?_, E.dis, E.rm _ _ ex E.tmp, E.rm, fun b hb => ?_, fun b hb => ?_, fun b o h n t => ?_, tabs_upd ha plain_frz E.tab, E.zs, E.iok⟩, ex⟩
  · obtain ⟨v, h1, h2⟩ := E.im i d h
    exact ⟨v, h1, h2.mono ex⟩
  · obtain ⟨b, h1, h2, h3, h4⟩ := E.ow i d h
    have nb : b ≠ a := fun e => by
      subst e
      rcases h3 with ⟨j, h3⟩ | ⟨h3, _⟩
      · exact hio j h3
      · exact h3 _ plain_frz.1 (show upd Z.H0 b _ b = _ from upd_same)
    refine ⟨b, h1, List.mem_filter.mpr ⟨h2, by simp [nb]⟩, ?_, h4.mono ex fun o _ q => by rw [upd_ne nb]; exact q⟩
    rcases h3 with h3 | ⟨h3, h5⟩
    · exact .inl h3
    · refine .inr ⟨fun o t => ?_, h5⟩
      have := h3 o t
      have h3' : upd Z.H0 a (.frz od u) b ≠ some o := this
      rw [upd_ne nb] at h3'
      exact h3'
  · exact List.mem_filter.mpr ⟨E.sub b hb, by simp; exact fun e => aB (by rw [← e]; exact hb)⟩
  · obtain ⟨hm, hne⟩ := List.mem_filter.mp hb
    obtain ⟨o, h1, h2⟩ := E.trk b hm
    exact ⟨o, by rw [upd_ne (by simpa using hne)]; exact h1, h2⟩
  · by_cases e : b = a
    · subst e
      rw [h0 o h t, upd_same]
    · rw [upd_ne e]
      exact E.pres b o (show upd Z.H0 a _ b = some o by rw [upd_ne e]; exact h) n t
end
section
variable {K : PySem.W.Frag} {zs : List Nat} {Z : Zn} {M : List Addr} {H : Hp} {σ : L2.St} {Γ : List Sl} {R : Hp → Prop} {a : Addr} {u : HO} {od : Obj}
/-- .. where it is marked already -/
theorem En.markF (E : En K zs Z M H σ Γ R) (ha : H a = some (.frz od u)) (aM : a ∉ M) : En K zs (Z.mark a (.frz od u)) M H σ Γ R := by
  have ne : ∀ b, b ∈ M → b ≠ a := fun b hb e => aM (by rw [← e]; exact hb)
  refine ⟨E.len, E.im, fun i d h => ?_, E.dis, E.tmp, E.rm, E.sub, E.trk, fun b o h n t => ?_, E.tab, E.zs, E.iok⟩
  · obtain ⟨b, h1, h2, h3, h4⟩ := E.ow i d h
    refine ⟨b, h1, h2, ?_, h4⟩
    rcases h3 with h3 | ⟨h3, h5⟩
    · exact .inl h3
    · exact .inr ⟨fun o t => by show upd Z.H0 a _ b ≠ some o; rw [upd_ne (ne b h2)]; exact h3 o t, h5⟩
  · have h' : upd Z.H0 a (.frz od u) b = some o := h
    by_cases e : b = a
    · rw [e, upd_same] at h'
      rw [e, ha]
      exact h'
    · rw [upd_ne e] at h'
      exact E.pres b o h' n t
theorem En.unmarkF (E : En K zs (Z.mark a (.frz od u)) M H σ Γ R) (hio : ∀ j, (j, a) ∉ Z.io) (h0 : ∀ o, Z.H0 a = some o → noTbl o → o = .frz od u) : En K zs Z M H σ Γ R := by
  refine ⟨E.len, E.im, fun i d h => ?_, E.dis, E.tmp, E.rm, E.sub, E.trk, fun b o h n t => ?_, E.tab, E.zs, E.iok⟩
  · obtain ⟨b, h1, h2, h3, h4⟩ := E.ow i d h
    have nb : b ≠ a := fun e => by
      subst e
      rcases h3 with ⟨j, h3⟩ | ⟨h3, _⟩
      · exact hio j h3
      · exact h3 _ plain_frz.1 (show upd Z.H0 b _ b = _ from upd_same)
    refine ⟨b, h1, h2, ?_, h4⟩
    rcases h3 with h3 | ⟨h3, h5⟩
    · exact .inl h3
    · refine .inr ⟨fun o t => ?_, h5⟩
      have h3' : upd Z.H0 a (.frz od u) b ≠ some o := h3 o t
      rw [upd_ne nb] at h3'
      exact h3'
  · by_cases e : b = a
    · subst e
      rw [h0 o h t]
      exact E.marked hio
    · exact E.pres b o (show upd Z.H0 a _ b = some o by rw [upd_ne e]; exact h) n t
end
section
variable {c : Ct} {Γ : List Sl} {Φ : Dt → List Sl → Prop} {Ψ : Out → Prop} {te td : TE} {ts : TS} {g : TG}
theorem mark_nd {Z : Zn} {a : Addr} {u : HO} {od : Obj} (h : Z.nd) : (Z.mark a (.frz od u)).nd := fun b => by
  by_cases e : b = a
  · subst e
    exact ⟨fun k z => (by have z' : upd Z.H0 b (.frz od u) b = _ := z; rw [upd_same] at z'; cases z'), fun k z => (by have z' : upd Z.H0 b (.frz od u) b = _ := z; rw [upd_same] at z'; cases z')⟩
  · exact ⟨fun k z => (h b).1 k (by have z' : upd Z.H0 a (.frz od u) b = _ := z; rw [upd_ne e] at z'; exact z'), fun k z => (h b).2 k (by have z' : upd Z.H0 a (.frz od u) b = _ := z; rw [upd_ne e] at z'; exact z')⟩
theorem Ct.Ok.markF {Z : Zn} {a : Addr} {u : HO} {od : Obj} (O : c.Ok Z) (h0 : ∀ o, Z.H0 a = some o → noTbl o → o = .frz od u) : c.Ok (Z.mark a (.frz od u)) := ⟨O.t, fun cls H' p f tb => O.x cls H' p (fun b o h n t => by
  by_cases e : b = a
  · subst e
    have q := f b (.frz od u) (show upd Z.H0 b _ b = _ from upd_same) n plain_frz.1
    rw [h0 o h t]
    exact q
  · exact f b o (show upd Z.H0 a _ b = some o by rw [upd_ne e]; exact h) n t) tb, fun q => mark_nd (O.nd q)⟩
theorem Ct.Ok.mark {Z : Zn} {a : Addr} {u : HO} {od : Obj} (O : c.Ok Z) (hu : IsDct u) (h0 : ∀ o, Z.H0 a = some o → noTbl o → o = u) : c.Ok (Z.mark a (.frz od u)) := ⟨O.t, fun cls H' p f tb => O.x cls H' p (fun b o h n t => by
  by_cases e : b = a
  · subst e
    have q := f b (.frz od u) (show upd Z.H0 b _ b = _ from upd_same) n plain_frz.1
    rw [h0 o h t]
    rcases hu with ⟨k, rfl⟩ | ⟨k, rfl⟩
    · rcases q with q | ⟨_, _, z, _⟩ | ⟨_, _, z, _⟩
      · exact .inr (.inl ⟨k, od, rfl, q⟩)
      · cases z
      · cases z
    · rcases q with q | ⟨_, _, z, _⟩ | ⟨_, _, z, _⟩
      · exact .inr (.inr ⟨k, od, rfl, q⟩)
      · cases z
      · cases z
  · exact f b o (show upd Z.H0 a _ b = some o by rw [upd_ne e]; exact h) n t) tb, fun q => mark_nd (O.nd q)⟩

/-! ### an expression that names one place -/
def Wv (c : Ct) (td : TE) (Γ : List Sl) (d : Dt) : Prop :=
  ∀ Z M H σ R, c.Ok Z → En c.K c.zs Z M H σ Γ R → ∃ v, Is c.K (Fz M H) v d ∧ ∀ M' H', Ex (Fz M H) (Fz M' H') → ∀ Q : VK, Q v H' → td σ H' Q
theorem v_var {i : Nat} {d : Dt} (h : Γ[i]? = some (.im d)) : Wv c (tVar i) Γ d := fun Z M H σ R O E => by
  obtain ⟨v, h1, h2⟩ := E.im i d h
  exact ⟨v, h2, fun M' H' e Q q => ⟨v, h1, q⟩⟩
theorem v_fld {f : Str} {C : Addr} {ns : List Str} {ds : List Dt} {d : Dt} (h : Wv c te Γ (.ins C ns ds)) (hc : Cls c.K C) (hn : NoAttr c.K C f) (hk : (ns.zip ds).lookup f = some d) : Wv c (tFld c.K te f) Γ d := fun Z M H σ R O E => by
  obtain ⟨v, h1, h2⟩ := h Z M H σ R O E
  cases h1 with
  | ins g1 g2 g3 =>
    obtain ⟨w, hw, iw⟩ := zip_lookup g2 g3 hk
    exact ⟨w, iw, fun M' H' e Q q => h2 M' H' e _ ⟨_, C, _, _, w, rfl, Fz.ins (e _ _ g1), hc, hn, hw, q⟩⟩

/-! ### walks of dicts -/
def keyD : Key → Dt
  | .inl i => .int i
  | .inr x => .str x
theorem keyD_is {K : PySem.W.Frag} {F : Hp} : ∀ k : Key, Is K F (kV k) (keyD k)
  | .inl _ => .int
  | .inr _ => .str
/-- a walk mk, told by J, of a dict of plain keys: it yields f -/
structure DWalk (K : PySem.W.Frag) (mk : TE → TI) (J : Addr → Obj → List (Key × V) → It) (f : List Key → List Dt → List Dt) : Prop where
  go : ∀ (td : TE) (σ : L2.St) (H : Hp) (R : It → Hp → Prop) (d : Addr) (o : Obj) (kvs : List (Key × V)), (∀ Q : VK, Q (.ref d) H → td σ H Q) → H d = some (.frz o (.dK kvs)) → R (J d o kvs) H → mk td σ H R
  src : ∀ (d : Addr) (o : Obj) (ks : List Key) (vs : List V) (ds : List Dt), ks.length = vs.length → vs.length = ds.length → Src K (J d o (ks.zip vs)) (fun H => H d = some (.frz o (.dK (ks.zip vs)))) (fun F => IsL K F vs ds) (f ks ds)
theorem zip_get {α β : Type} {ks : List α} {vs : List β} {i : Nat} {p : α × β} (h : (ks.zip vs)[i]? = some p) : ks[i]? = some p.1 ∧ vs[i]? = some p.2 := by
  rw [List.getElem?_zip_eq_some] at h
  exact h
theorem dw_keys {K : PySem.W.Frag} : DWalk K iKeys Itk (fun ks _ => ks.map keyD) where
  go := fun td σ H R d o kvs h1 h2 h3 => h1 _ ⟨d, o, rfl, .inl ⟨kvs, h2, h3⟩⟩
  src := fun d o ks vs ds hl hd => {
    mono := fun _ _ e h => h.mono e
    stop := fun M H i w _ _ h => ⟨w, by rw [List.length_zip]; rw [List.length_map] at h; omega⟩
    go := fun M H i w _ _ h => ⟨w, by rw [List.length_zip]; rw [List.length_map] at h; omega⟩
    yld := fun M H i x H' _ _ _ y h => by
      obtain ⟨e, k, v, hk, rfl⟩ := y
      subst e
      refine ⟨keyD k, ?_, Ex.refl _, keyD_is k⟩
      rw [List.getElem?_map, (zip_get hk).1]
      rfl }
theorem dw_vals {K : PySem.W.Frag} : DWalk K iVals Itd (fun _ ds => ds) where
  go := fun td σ H R d o kvs h1 h2 h3 => h1 _ ⟨d, o, kvs, rfl, h2, h3⟩
  src := fun d o ks vs ds hl hd => {
    mono := fun _ _ e h => h.mono e
    stop := fun M H i w _ _ h => ⟨w, by rw [List.length_zip]; omega⟩
    go := fun M H i w _ _ h => ⟨w, by rw [List.length_zip]; omega⟩
    yld := fun M H i x H' _ _ s y h => by
      obtain ⟨e, k, hk⟩ := y
      subst e
      obtain ⟨d', e1, e2⟩ := s.getV (zip_get hk).2
      exact ⟨d', e1, Ex.refl _, e2⟩ }
theorem dw_items {K : PySem.W.Frag} : DWalk K iItems Iti (fun ks ds => List.zipWith (fun k d => Dt.tup [keyD k, d]) ks ds) where
  go := fun td σ H R d o kvs h1 h2 h3 => h1 _ ⟨d, o, kvs, rfl, h2, h3⟩
  src := fun d o ks vs ds hl hd => {
    mono := fun _ _ e h => h.mono e
    stop := fun M H i w _ _ h => ⟨w, by rw [List.length_zip]; rw [List.length_zipWith] at h; omega⟩
    go := fun M H i w _ _ h => ⟨w, by rw [List.length_zip]; rw [List.length_zipWith] at h; omega⟩
    yld := fun M H i x H' _ t s y h => by
      obtain ⟨T, k, v, hk, rfl, hT, rfl⟩ := y
      obtain ⟨d', e1, e2⟩ := s.getV (zip_get hk).2
      refine ⟨.tup [keyD k, d'], ?_, Ex.new hT, .tup (.inl (.inl (new_fz t hT))) (.cons (keyD_is k) (.cons (e2.mono (ex_fz (Ex.new hT))) .nil))⟩
      rw [List.getElem?_zipWith, (zip_get hk).1, e1] }
def tLk (t : TS) : TS := fun D σ H => tLock t D σ H ∨ t D σ H
def tLkE (t : TE) : TE := fun σ H Q => tLockE t σ H Q ∨ t σ H Q
theorem ps_lk {X : Cx} {st : Stmt} {t : TS} (h : PS X st t) : PS X st (tLk t) := ⟨fun pins s σ H D I q => by
  rcases q with q | q
  · exact (ps_lock h).run pins s σ H D I q
  · exact h.run pins s σ H D I q⟩
theorem pe_lk {X : Cx} {e : Expr} {t : TE} (h : PE X e t) : PE X e (tLkE t) := ⟨fun pins s σ H Q I q => by
  rcases q with q | q
  · exact (pe_lock h).run pins s σ H Q I q
  · exact h.run pins s σ H Q I q⟩
/-- for .. over a dict that a place names -/
theorem s_forD {mk : TE → TI} {J : Addr → Obj → List (Key × V) → It} {f : List Key → List Dt → List Dt} (dw : DWalk c.K mk J f) {ks : List Key} {ds : List Dt} (hv : Wv c td Γ (.dK ks ds))
    (h : ∃ Jd : Nat → List Sl → Prop, Jd 0 Γ ∧ (∀ (i : Nat) (d : Dt) (Γ' : List Sl), (f ks ds)[i]? = some d → Jd i Γ' → Wg c g d Γ' fun Γ2 => Ws c ts Γ2 (lpe Ψ (Jd (i + 1)))) ∧ ∀ Γ', Jd (f ks ds).length Γ' → Ψ (.nx Γ')) : Ws c (tLk (tFor (mk td) g ts)) Γ Ψ := fun Z M H σ R D O E G => by
  obtain ⟨v, iv, hv⟩ := hv Z M H σ R O E
  obtain ⟨Jd, j0, js, jd⟩ := h
  cases iv with
  | dK h1 h2 h3 =>
    rename_i a vs
    have aM := Fz.nm h1
    have aB : a ∉ Z.B := fun z => aM (E.sub a z)
    have hio : ∀ j, (j, a) ∉ Z.io := fun j q => aB (E.iok j a q).1
    rcases Fz.rdK h1 with ha | ⟨od, ha⟩
    · refine .inl ⟨a, _, ha, trivial, fun od => ?_⟩
      have hu : IsDct (.dK (ks.zip vs)) := .inl ⟨_, rfl⟩
      have h0 : ∀ o, Z.H0 a = some o → noTbl o → o = .dK (ks.zip vs) := fun o q t => by
        have := E.pres a o q hio t
        rw [ha] at this
        exact (Option.some.inj this).symm
      have E2 := E.lockW (od := od) hu ha aM
      have i3 : IsL c.K (Fz M (upd H a (.frz od (.dK (ks.zip vs))))) vs ds := by rw [fz_mark hu ha]; exact h3
      refine dw.go td σ _ _ a od _ (fun Q q => hv M _ (by rw [fz_mark hu ha]; exact Ex.refl _) Q q) upd_same ?_
      refine for_core (R := R) (O.mark hu h0) (dw.src a od ks vs ds h2 h3.length) (fun H1 q => q a _ (show upd Z.H0 a _ a = _ from upd_same) hio plain_frz.1) (E2.hold (fun _ _ e q => ⟨q.1.mono e, E.rm _ _ e q.2⟩) ⟨i3, E2.tmp⟩) Jd j0 js jd ⟨?_, ?_, ?_, ?_⟩ E.rm
      · intro Γ' σ' M' H' p E'
        obtain ⟨E3, _⟩ := E'.unlockW hu hio aB h0
        exact ⟨E'.marked hio, G.nx _ _ _ _ p E3⟩
      · intro d Γ' v' σ' M' H' p E' i'
        obtain ⟨E3, ex⟩ := E'.unlockW hu hio aB h0
        exact ⟨E'.marked hio, G.rt _ _ _ _ _ _ p E3 (i'.mono ex)⟩
      · intro Γ' σ' M' H' p E'
        obtain ⟨E3, _⟩ := E'.unlockW hu hio aB h0
        exact ⟨E'.marked hio, G.bk _ _ _ _ p E3⟩
      · intro Γ' σ' M' H' p E'
        obtain ⟨E3, _⟩ := E'.unlockW hu hio aB h0
        exact ⟨E'.marked hio, G.ct _ _ _ _ p E3⟩
    · have h0 : ∀ o, Z.H0 a = some o → noTbl o → o = .frz od (.dK (ks.zip vs)) := fun o q t => by
        have := E.pres a o q hio t
        rw [ha] at this
        exact (Option.some.inj this).symm
      refine .inr (dw.go td σ _ _ a od _ (fun Q q => hv M _ (Ex.refl _) Q q) ha ?_)
      exact for_core (R := R) (O.markF h0) (dw.src a od ks vs ds h2 h3.length) (fun H1 q => q a _ (show upd Z.H0 a _ a = _ from upd_same) hio plain_frz.1) ((E.markF ha aM).hold (fun _ _ e q => ⟨q.1.mono e, E.rm _ _ e q.2⟩) ⟨h3, E.tmp⟩) Jd j0 js jd
        ⟨fun _ _ _ _ p E' => G.nx _ _ _ _ p (E'.unmarkF hio h0), fun _ _ _ _ _ _ p E' i' => G.rt _ _ _ _ _ _ p (E'.unmarkF hio h0) i', fun _ _ _ _ p E' => G.bk _ _ _ _ p (E'.unmarkF hio h0), fun _ _ _ _ p E' => G.ct _ _ _ _ p (E'.unmarkF hio h0)⟩ E.rm
/-- a comprehension over a dict that a place names -/
theorem w_lcD {mk : TE → TI} {J : Addr → Obj → List (Key × V) → It} {f : List Key → List Dt → List Dt} (dw : DWalk c.K mk J f) {ks : List Key} {ds : List Dt} (hv : Wv c td Γ (.dK ks ds)) {g : TG} {t : TT} {vs : List Nat} (hz : ∀ i ∈ vs, i ∉ c.zs) (tg : Tgt g vs) (hl : (f ks ds).length ≤ sizeLine)
    (Jd : Nat → List Dt → List Sl → Prop) (j0 : Jd 0 [] (wipeG Γ vs))
    (js : ∀ (i : Nat) (d : Dt) (acc : List Dt) (Γ' : List Sl), (f ks ds)[i]? = some d → Jd i acc Γ' → Wg c.no g d Γ' fun Γ2 => Wt c.no t Γ2 fun b Γ3 => if b = true then Wp c.no te Γ3 fun e Γ4 => Jd (i + 1) (acc ++ [e]) (wipeG Γ4 vs) else Jd (i + 1) acc (wipeG Γ3 vs))
    (jd : ∀ (acc : List Dt) (Γ' : List Sl), acc.length ≤ (f ks ds).length → Jd (f ks ds).length acc Γ' → Φ (.lst acc) Γ') : Wp c (tLkE (tLc (mk td) g t te vs)) Γ Φ := fun Z M H σ R O E Q k => by
  obtain ⟨v, iv, hv⟩ := hv Z M H σ R O E
  cases iv with
  | dK h1 h2 h3 =>
    rename_i a vs'
    have aM := Fz.nm h1
    have aB : a ∉ Z.B := fun z => aM (E.sub a z)
    have hio : ∀ j, (j, a) ∉ Z.io := fun j q => aB (E.iok j a q).1
    rcases Fz.rdK h1 with ha | ⟨od, ha⟩
    · refine .inl ⟨a, _, ha, trivial, fun od => ?_⟩
      have hu : IsDct (.dK (ks.zip vs')) := .inl ⟨_, rfl⟩
      have h0 : ∀ o, Z.H0 a = some o → noTbl o → o = .dK (ks.zip vs') := fun o q t => by
        have := E.pres a o q hio t
        rw [ha] at this
        exact (Option.some.inj this).symm
      have E2 := E.lockW (od := od) hu ha aM
      have i3 : IsL c.K (Fz M (upd H a (.frz od (.dK (ks.zip vs'))))) vs' ds := by rw [fz_mark hu ha]; exact h3
      refine dw.go td σ _ _ a od _ (fun Q q => hv M _ (by rw [fz_mark hu ha]; exact Ex.refl _) Q q) upd_same fun D hD => ?_
      refine lcd_core (R := R) (Q := fun v H' => H' a = some (.frz od (.dK (ks.zip vs'))) ∧ Q v (upd H' a (.dK (ks.zip vs')))) hz tg (O.mark hu h0) hl (dw.src a od ks vs' ds h2 h3.length) (fun H1 q => q a _ (show upd Z.H0 a _ a = _ from upd_same) hio plain_frz.1) (E2.hold (fun _ _ e q => ⟨q.1.mono e, E.rm _ _ e q.2⟩) ⟨i3, E2.tmp⟩) Jd j0 js jd E.rm (fun v' d Γ' M' H' p E' i' => ?_) D hD
      obtain ⟨E3, ex⟩ := E'.unlockW hu hio aB h0
      exact ⟨E'.marked hio, k _ _ _ _ _ p E3 (i'.mono ex)⟩
    · have h0 : ∀ o, Z.H0 a = some o → noTbl o → o = .frz od (.dK (ks.zip vs')) := fun o q t => by
        have := E.pres a o q hio t
        rw [ha] at this
        exact (Option.some.inj this).symm
      refine .inr (dw.go td σ _ _ a od _ (fun Q q => hv M _ (Ex.refl _) Q q) ha fun D hD => ?_)
      exact lcd_core (R := R) hz tg (O.markF h0) hl (dw.src a od ks vs' ds h2 h3.length) (fun H1 q => q a _ (show upd Z.H0 a _ a = _ from upd_same) hio plain_frz.1) ((E.markF ha aM).hold (fun _ _ e q => ⟨q.1.mono e, E.rm _ _ e q.2⟩) ⟨h3, E.tmp⟩) Jd j0 js jd E.rm
        (fun v' d Γ' M' H' p E' i' => k _ _ _ _ _ p (E'.unmarkF hio h0) i') D hD
/-- what is kept, what is made of it -/
theorem w_lcDF {mk : TE → TI} {J : Addr → Obj → List (Key × V) → It} {f : List Key → List Dt → List Dt} (dw : DWalk c.K mk J f) {ks : List Key} {ds : List Dt} (hv : Wv c td Γ (.dK ks ds)) {g : TG} {t : TT} {vs : List Nat} (hz : vs.all (fun i => !c.zs.contains i) = true) (tg : Tgt g vs) (hl : (f ks ds).length ≤ sizeLine) (p : Dt → Bool) (e : Dt → Dt)
    (hs : ∀ (i : Nat) (d : Dt), (f ks ds)[i]? = some d → Wg c.no g d (wipeG Γ vs) fun Γ2 => Wt c.no t Γ2 fun b Γ3 => b = p d ∧ if b = true then Wp c.no te Γ3 fun o Γ4 => o = e d ∧ wipeG Γ4 vs = wipeG Γ vs else wipeG Γ3 vs = wipeG Γ vs)
    (hf : Φ (.lst (((f ks ds).filter p).map e)) (wipeG Γ vs)) : Wp c (tLkE (tLc (mk td) g t te vs)) Γ Φ := by
  refine w_lcD dw hv (fun i hi hz' => ?_) tg hl (fun i acc Γ' => Γ' = wipeG Γ vs ∧ acc = (((f ks ds).take i).filter p).map e) ⟨rfl, by simp⟩ ?_ ?_
  · have q := List.all_eq_true.mp hz i hi
    rw [List.contains_iff_mem.mpr hz'] at q
    cases q
  · rintro i d acc Γ' ed ⟨rfl, rfl⟩
    refine (hs i d ed).mono fun Γ2 h2 => Wt.mono h2 fun b Γ3 ⟨hb, h3⟩ => ?_
    cases b with
    | true =>
      refine (show Wp c.no te Γ3 _ from h3).mono fun o Γ4 ⟨eo, e4⟩ => ⟨e4, ?_⟩
      rw [filt_snoc ed, if_pos hb.symm, eo]
    | false =>
      refine ⟨h3, ?_⟩
      rw [filt_snoc ed, if_neg (by rw [← hb]; simp)]
  · rintro acc Γ' _ ⟨rfl, rfl⟩
    rw [List.take_length]
    exact hf
/-! ### a dict's worth -/
def dget : List Key → List Dt → Key → Option Dt
  | k :: ks, d :: ds, x => if k = x then some d else dget ks ds x
  | _, _, _ => none
theorem dget_is {K : PySem.W.Frag} {F : Hp} {x : Key} : ∀ {ks : List Key} {vs : List V} {ds : List Dt}, ks.length = vs.length → IsL K F vs ds → (∀ d, dget ks ds x = some d → ∃ v, valV (ks.zip vs) x = some v ∧ Is K F v d) ∧ (dget ks ds x = none → valV (ks.zip vs) x = none)
  | [], [], _, _, .nil => ⟨fun d h => by simp [dget] at h, fun _ => rfl⟩
  | k :: ks, v :: vs, _, hl, .cons (d := d) h t => by
    have ih := dget_is (x := x) (ks := ks) (by simpa using hl) t
    simp only [dget, List.zip_cons_cons]
    by_cases e : k = x
    · rw [if_pos e, valV_pos (p := (k, v)) e]
      exact ⟨fun d' q => ⟨v, rfl, by cases q; exact h⟩, fun q => by cases q⟩
    · rw [if_neg e, valV_neg (p := (k, v)) e]
      exact ih
/-- a key's data -/
def asKey : Dt → Option Key
  | .int i => some (.inl i)
  | .str s => some (.inr s)
  | _ => none
theorem asKey_is {K : PySem.W.Frag} {F : Hp} {v : V} {d : Dt} {k : Key} (h : asKey d = some k) (i : Is K F v d) : v = kV k := by
  cases d <;> simp only [asKey] at h <;> cases h <;> cases i <;> rfl
/-- d[k] -/
theorem w_dget {ty : TE} (h : Wp c td Γ fun x Γ1 => ∃ ks ds, x = .dK ks ds ∧ Wp c ty Γ1 fun y Γ2 => ∃ k d, asKey y = some k ∧ dget ks ds k = some d ∧ Φ d Γ2) : Wp c (tDGet td ty) Γ Φ := fun Z M H σ R O E Q k =>
  h Z M H σ R O E _ fun v x Γ1 M1 H1 ⟨ks, ds, e, h1⟩ E1 i1 => by
    subst e
    refine h1 Z M1 H1 σ _ O (E1.push i1) _ fun w y Γ2 M2 H2 ⟨kk, d, ek, ed, p⟩ E2 iy => ?_
    obtain ⟨ix, E3⟩ := E2.pop E.rm
    cases ix with
    | dK g1 g2 g3 =>
      obtain ⟨z, e1, e2⟩ := (dget_is g2 g3).1 d ed
      exact ⟨_, z, rfl, .inl ⟨_, kk, Fz.rdK g1, asKey_is ek iy, e1.symm⟩, k _ _ Γ2 M2 H2 p E3 e2⟩
/-- d.get(k, x) -/
theorem w_dget2 {ty tx : TE} (h : Wp c td Γ fun x Γ1 => ∃ ks ds, x = .dK ks ds ∧ Wp c ty Γ1 fun y Γ2 => ∃ k, asKey y = some k ∧ Wp c tx Γ2 fun z Γ3 => Φ ((dget ks ds k).getD z) Γ3) : Wp c (tDGet2 td ty tx) Γ Φ := fun Z M H σ R O E Q k =>
  h Z M H σ R O E _ fun v x Γ1 M1 H1 ⟨ks, ds, e, h1⟩ E1 i1 => by
    subst e
    cases id i1 with
    | dK g1 g2 g3 =>
      refine ⟨_, rfl, .inl ⟨_, Fz.rdK g1⟩, h1 Z M1 H1 σ _ O (E1.push i1) _ fun w y Γ2 M2 H2 ⟨kk, ek, h2⟩ E2 iy => ?_⟩
      have ey : w = kV kk := asKey_is ek iy
      refine h2 Z M2 H2 σ _ O E2 _ fun u z Γ3 M3 H3 p E3 iz => ?_
      obtain ⟨ix, E4⟩ := E3.pop E.rm
      cases ix with
      | dK g4 g5 g6 =>
        refine ⟨_, .inl ⟨_, kk, Fz.rdK g4, ey, rfl⟩, ?_⟩
        have q := dget_is (x := kk) g5 g6
        cases ed : dget ks ds kk with
        | none =>
          rw [q.2 ed]
          rw [ed] at p
          exact k _ _ Γ3 M3 H3 p E4 iz
        | some d =>
          obtain ⟨z', e1, e2⟩ := q.1 d ed
          rw [e1]
          rw [ed] at p
          exact k _ _ Γ3 M3 H3 p E4 e2
/-- list(d) -/
def rListK : List V → Hp → VK → Prop := fun xs H Q => ∃ (a : Addr) (kvs : List (Key × V)), xs = [.ref a] ∧ Rd H a (.dK kvs) ∧ ∀ p, H p = none → Q (.ref p) (upd H p (.lst (kvs.map fun kv => kV kv.1)))
theorem call_listK {X : Cx} (hc : X.calm = true) : CallR X (.type "list") rListK := call_listD hc
theorem keys_is {K : PySem.W.Frag} {F : Hp} : ∀ ks : List Key, IsL K F (ks.map kV) (ks.map keyD)
  | [] => .nil
  | k :: r => .cons (keyD_is k) (keys_is r)
theorem zip_keys : ∀ (ks : List Key) (vs : List V), ks.length = vs.length → (ks.zip vs).map (fun kv => kV kv.1) = ks.map kV
  | [], [], _ => rfl
  | k :: ks, v :: vs, h => by
    simp only [List.zip_cons_cons, List.map_cons]
    rw [zip_keys ks vs (by simpa using h)]
theorem rc_listK {K : PySem.W.Frag} {P : Dt → Prop} {ks : List Key} {ds : List Dt} (h : P (.lst (ks.map keyD))) : RC1 K rListK [.dK ks ds] P := fun M H vs t i Q q => by
  cases i with
  | cons i1 i2 =>
    cases i2
    cases i1 with
    | dK g1 g2 g3 =>
      refine ⟨_, _, rfl, Fz.rdK g1, fun p hp => ?_⟩
      rw [zip_keys _ _ g2]
      exact q _ _ _ h (Ex.new hp) (.lst (new_fz t hp) (keys_is ks))
end
end DL
/-! DL10: the law's own def; own dicts written -/
namespace DL
open PySem L2 Evl
/-- the zone of the law's def: all is its own -/
abbrev Z0 (T : TbT) : Zn := ⟨fun _ => none, [], [], T⟩
def WsT (c : Ct) (ts : TS) (Γ : List Sl) (Ψ : Out → Prop) : Prop :=
  ∀ M H σ D, En c.K c.zs (Z0 c.T) M H σ Γ (fun _ => True) → Goes c (Z0 c.T) (fun _ => True) D Ψ → ts D σ H
section
variable {c : Ct} {Γ : List Sl} {Φ : Dt → List Sl → Prop} {Ψ : Out → Prop} {te td tv ty : TE} {ts us : TS} {g : TG}
theorem ok0 (hp : ∀ C, ¬ c.P C) : c.Ok (Z0 c.T) := ⟨rfl, fun cls H' p _ _ => (hp cls p).elim, fun _ a => ⟨fun k z => (by cases z), fun k z => (by cases z)⟩⟩
theorem WsT.of (hp : ∀ C, ¬ c.P C) (h : Ws c ts Γ Ψ) : WsT c ts Γ Ψ := fun M H σ D E G => h _ M H σ _ D (ok0 hp) E G
theorem l_seq (h : WsT c ts Γ (onx Ψ fun Γ1 => WsT c us Γ1 Ψ)) : WsT c (tSeq ts us) Γ Ψ := fun M H σ D E G =>
  h M H σ { D with nx := us D } E ⟨fun Γ1 σ1 M1 H1 p E1 => p M1 H1 σ1 D E1 G, fun d Γ v σ M H p => G.rt d Γ v σ M H p, fun Γ σ M H p => G.bk Γ σ M H p, fun Γ σ M H p => G.ct Γ σ M H p⟩
/-- for dice in a list of one list of whole numbers: it is our own from now on, nothing else is known -/
theorem s_dice {i : Nat} {te' : TI} (hz : c.zs = []) (hp : ∀ C, ¬ c.P C) (hi : (Γ[i]?).isSome = true)
    (h : Wp c te Γ fun d Γ1 => Γ1.length = Γ.length ∧ ∃ ns : List Int, d = .lst [.lst (ns.map Dt.int)] ∧ ns ≠ [] ∧ Ws c ts ((List.replicate Γ.length Sl.un).set i (.ow (.lst (ns.map Dt.int)))) (lpe Ψ fun Γ2 => Ψ (.nx Γ2))) : WsT c (tFor (iOr te' (iList c.K te)) (gName i) ts) Γ Ψ := fun M H σ D E G => by
  refine .inr (h _ M H σ _ (ok0 hp) E _ fun v d Γ1 M1 H1 ⟨hl, ns, ed, hne, hb⟩ E1 iv => ?_)
  subst ed
  cases iv with
  | lst h1 h2 =>
    rename_i a vs
    cases h2 with
    | cons h3 h4 =>
      cases h4
      cases h3 with
      | lst h5 h6 =>
        rename_i b ws
        have ews := IsL.of_ints h6
        subst ews
        have ha := Fz.lst h1
        have hbb := Fz.lst h5
        have nab : a ≠ b := fun e => by
          rw [e, hbb] at ha
          have ha' := HO.lst.inj (Option.some.inj ha)
          cases ns with
          | nil => exact hne rfl
          | cons x r => cases ha'
        have hs : i < σ.length := by
          rw [E1.len, hl]
          cases e : Γ[i]? with
          | none => rw [e] at hi; cases hi
          | some x => exact (List.getElem?_eq_some_iff.mp e).1
        have hs' : i < Γ.length := by rw [← hl, ← E1.len]; exact hs
        have sq : SqL c.K (Fz [b] H1) a [V.ref b] := SqL.of (Fz.mkN ha (by simp [nab]) rfl)
        have E2 : En c.K c.zs (Z0 c.T) [b] H1 (σ.set i (some (.ref b))) ((List.replicate Γ.length Sl.un).set i (.ow (.lst (ns.map Dt.int)))) (fun F => SqL c.K F a [V.ref b] ∧ True) := by
          have look : ∀ {j : Nat} {s : Sl}, ((List.replicate Γ.length Sl.un).set i (.ow (.lst (ns.map Dt.int))))[j]? = some s → (j = i ∧ s = .ow (.lst (ns.map Dt.int))) ∨ s = .un := fun {j s} q => by
            by_cases e : j = i
            · subst e
              rw [List.getElem?_set_self (by rw [List.length_replicate]; exact hs')] at q
              exact .inl ⟨rfl, (Option.some.inj q).symm⟩
            · rw [List.getElem?_set_ne (Ne.symm e)] at q
              obtain ⟨q1, q2⟩ := List.getElem?_eq_some_iff.mp q
              rw [List.getElem_replicate] at q2
              exact .inr q2.symm
          refine ⟨by rw [List.length_set, List.length_set, List.length_replicate, E1.len, hl], fun j x q => ?_, fun j x q => ?_, fun j l p d1 d2 n q1 q2 => ?_, ⟨sq, trivial⟩, fun F F' e q => ⟨ex_l e q.1, trivial⟩, fun p q => (by simp at q), fun p q => ?_, fun p o q => (by cases q), E1.tab, E1.zs, fun j p q => (by simp at q)⟩
          · rcases look q with ⟨_, z⟩ | z <;> cases z
          · rcases look q with ⟨rfl, z⟩ | z
            · cases z
              exact ⟨b, List.getElem?_set_self hs, by simp, .inr ⟨fun u t z => (by cases z), (by simp)⟩, _, hbb, IsL.ints ns⟩
            · cases z
          · rcases look q1 with ⟨rfl, z⟩ | z
            · rcases look q2 with ⟨rfl, z⟩ | z
              · exact (n rfl).elim
              · cases z
            · cases z
          · rw [List.mem_singleton.mp q]
            exact ⟨_, hbb, plain_lst⟩
        refine ⟨a, rfl, ⟨_, SqL.of ha⟩, fun k m σ' H' => (k = 0 ∧ m = 1 ∧ σ' = σ ∧ H' = H1) ∨ (k = 1 ∧ m = 0 ∧ ∃ Γ' M', Ψ (.nx Γ') ∧ En c.K c.zs (Z0 c.T) M' H' σ' Γ' (fun F => SqL c.K F a [V.ref b] ∧ True)), ⟨1, .inl ⟨rfl, rfl, rfl, rfl⟩⟩, ?_⟩
        rintro k m σ' H' (⟨rfl, rfl, rfl, rfl⟩ | ⟨rfl, rfl, Γ', M', p, E'⟩)
        · refine .inr ⟨⟨_, _, SqL.of ha, rfl⟩, fun σ3 H3 => ∃ Γ' M', Ψ (.nx Γ') ∧ En c.K c.zs (Z0 c.T) M' H3 σ3 Γ' (fun F => SqL c.K F a [V.ref b] ∧ True), fun σ3 H3 q => ⟨0, Nat.zero_lt_one, .inr ⟨rfl, rfl, q⟩⟩, fun x H3 y => ?_⟩
          obtain ⟨e3, y⟩ := y
          subst e3
          have ex : x = .ref b := by
            have := y _ (SqL.of ha)
            exact (Option.some.inj this).symm
          subst ex
          exact hb _ [b] _ _ _ _ (ok0 hp) E2 ⟨fun Γ5 σ5 M5 H5 p5 E5 => ⟨Γ5, M5, p5, E5⟩, fun d5 Γ5 v5 σ5 M5 H5 p5 E5 i5 => G.rt d5 Γ5 v5 σ5 M5 H5 p5 (E5.hold (fun _ _ _ _ => trivial) trivial) i5, fun Γ5 σ5 M5 H5 p5 E5 => G.nx Γ5 σ5 M5 H5 p5 (E5.hold (fun _ _ _ _ => trivial) trivial), fun Γ5 σ5 M5 H5 p5 E5 => ⟨Γ5, M5, p5, E5⟩⟩
        · exact .inl ⟨⟨_, sqL_fz E'.tmp.1, by simp⟩, G.nx Γ' σ' M' H' p (E'.hold (fun _ _ _ _ => trivial) trivial)⟩
end
/-- the law's promise -/
def spLaw (K : PySem.W.Frag) (T : TbT) : Sp := fun vs H Q _ => TbS T H ∧ ∃ (a : Addr) (ns : List Int), vs = [.ref a] ∧ SqL K H a (ns.map V.int) ∧ ns.length ≤ 63 ∧ ∀ H', Q (.bl true) H'
theorem law_D {P : Program} {w : World} {K : PySem.W.Frag} {T : TbT} {mg : Str → Option Value} {base : Heap} {x qual : Str} {st : Stmt} {f c : Addr} {fd : FuncData} {N : List Str} {k : Nat} {p : Str} (F : FunDc K x qual (defArgs st) (defBody st) (defScope st) [] f fd c) (S : FnScope N [p] (defScope st))
    (hN : N ≠ [])
    (hb : ∀ (A : Around) (outer : List Env) (s : Shared) (H : Hp) (E : XK), Room k (A.deeper (PyProof.Rows.envOfC qual (defScope st) s.heap.objs.size f (.ref c))) →
      ∃ t, PSs (cxOf (L2.CX P w) P w K mg base N qual (defScope st) f (.ref c) A outer s H E) (defBody st) t ∧ ∀ ns : List Int, ns.length ≤ 63 → WsT ⟨K, T, [], E, fun _ => False, True⟩ t (slots0 N [.lsr (ns.map Dt.int)]) (rets fun d => d = .bl true)) : FnOk P w K mg base (L2.CX P w) (k + 1) f fd [p] (spLaw K T) := by
  obtain ⟨oc, od, dV, kV, doc, pm', an, ct, osl, rfl, lk, hcd, _⟩ := F.ex
  refine fn_of lk hcd S (fun vs H Q E h => ?_) fun A outer s H vs Q E hr h => ?_
  · obtain ⟨_, a, ns, rfl, _⟩ := h
    rfl
  · obtain ⟨tt, h1, h2⟩ := hb A outer s H E hr
    obtain ⟨tb, a, ns, rfl, hS, hl, q⟩ := h
    have hS' : SqL K (Fz [] H) a (ns.map V.int) := by
      rcases hS with (h | ⟨o, h⟩) | h
      · exact .inl (.inl (Fz.mkN h (by simp) rfl))
      · exact .inl (.inr ⟨o, Fz.mkN h (by simp) rfl⟩)
      · exact .inr h
    have E0 := en_start (K := K) (T := T) (N := N) (M := []) (H := H) (vs := [.ref a]) (ds := [.lsr (ns.map Dt.int)]) (fun b hb => by simp at hb) tb (.cons (.lsr hS' (IsL.ints ns)) .nil)
    refine ⟨tt, h1, h2 ns hl [] H _ _ ⟨E0.len, E0.im, fun i d h => ?_, E0.dis, E0.tmp, E0.rm, fun b hb => by simp at hb, fun b hb => by simp at hb, fun b o z => (by cases z), tb, rfl, fun i b z => by simp at z⟩ ⟨fun Γ σ M' H' p E => ?_, fun d Γ v σ M' H' p E iv => ?_, fun _ _ _ _ p _ => p.elim, fun _ _ _ _ p _ => p.elim⟩⟩
    · rcases slots0_get h with z | ⟨d', z, e⟩ <;> cases z
    · cases p
    · have p' : d = .bl true := p
      subst p'
      cases iv
      exact q H'
end DL
/-! DL11: what a def tells of the exception of a lambda that it was given -/
namespace DL
open PySem L2 Evl
/-- the answer of the clauses (class, word), one after another -/
def toldBy (K : PySem.W.Frag) (Q : Str → Prop) : List (Addr × Str) → Value → Prop
  | [], _ => False
  | (C, ret) :: r, cls => ∃ b, PySem.W.exmOne K cls (.ref C) = some b ∧ (b = true → Q ret) ∧ (b = false → toldBy K Q r cls)
def TTm (K : PySem.W.Frag) (l : List (Addr × Str)) : (XK → Hp → VK → Prop) → Hp → VK → Prop := fun tl H Q => tl (fun cls _ H' => toldBy K (fun ret => Q (.str ret) H') l cls) H Q
def cls2 (l : List (Addr × Str)) : List (Value × (Addr → Value → Option Addr → TS)) := l.map fun p => (.ref p.1, fun _ _ _ => tRet (tC (.str p.2)))
theorem told_many {K : PySem.W.Frag} {D : Ends} {σ : L2.St} {H : Hp} {d : Option Addr} : ∀ {l : List (Addr × Str)} {cls : Value}, toldBy K (fun ret => D.rt (.str ret) H) l cls → wMany K (fun _ _ _ _ => False) D (cls2 l) cls d σ H
  | [], _, h => h
  | (C, ret) :: r, cls, ⟨b, e1, e2, e3⟩ => ⟨b, e1, fun hb a _ => e2 hb, fun hb => told_many (e3 hb)⟩
theorem many_gives {X : Cx} {Ng : List Str} {x a q : Str} {sg : Scope} {g : Addr} {cdg : Value} {h₀ : ExceptHandler} {hds : List ExceptHandler} {l : List (Addr × Str)} {p1 p2 p3 p8 : Pos} (h0 : ∀ f : Addr, (L2.start Ng [V.ref f])[0]? = some (some (V.ref f)))
    (hh : ∀ (s : Shared) (H : Hp), HdsOk (cxOf C8.CX0 X.prog X.w X.K X.mg X.base Ng x sg g cdg X.A X.stack s H C8.E0).nox (h₀ :: hds) (cls2 l)) :
    LamX.GivesTo X Ng x sg g cdg [.Try [.Return (some (.Call (.Name a p1) [] [] p2)) p3] (h₀ :: hds) [] [] p8] a q (TTm X.K l) := by
  intro f c' s H Q tl act hc h
  refine ⟨_, pss_one (ps_try_many (X := (cxOf C8.CX0 X.prog X.w X.K X.mg X.base Ng x sg g cdg X.A X.stack s H C8.E0).nox) (tb := fun W D σ H => ∃ Ech : XK, (∀ cls d σ' H', Ech cls d H' → W cls d σ' H') ∧ σ[0]? = some (some (.ref f)) ∧ H c' = some (LamX.CodeO c' q) ∧ tl Ech H D.rt)
    rfl rfl LamX.takes0 (fun W pn xe tk _ => ⟨fun pins s' σ H' D I h' => ?_⟩) (hh s H)), ?_⟩
  · obtain ⟨Ech, hW, h1, h2, h3⟩ := h'
    exact (pss_one (ps_ret (pos := p3) (act W pn xe Ech p1 p2 tk hW))).run pins s' σ H' D I ⟨h1, h2, h3⟩
  · exact ⟨_, fun cls d σ' H' e => told_many e, h0 f, hc, h⟩
section
variable {K : PySem.W.Frag} {zs : List Nat} {Z : Zn} {M : List Addr} {H H' : Hp} {σ : L2.St} {Γ : List Sl} {R : Hp → Prop}
/-- slots that hold no dict of our own -/
def Sl.nd : Sl → Bool
  | .ow (.dK _ _) => false
  | .ow (.dT _ _) => false
  | _ => true
theorem kept.eq {o : HO} {x : Option HO} (h : kept o x) (h1 : ∀ k, o ≠ .dK k) (h2 : ∀ k, o ≠ .dT k) : x = some o := by
  rcases h with h | ⟨k, _, e, _⟩ | ⟨k, _, e, _⟩
  · exact h
  · exact (h1 k e).elim
  · exact (h2 k e).elim
theorem kept.some {o : HO} {x : Option HO} (h : kept o x) (n : noTbl o) : ∃ o', x = Option.some o' ∧ noTbl o' := by
  rcases h with h | ⟨k, od, e, h⟩ | ⟨k, od, e, h⟩
  · exact ⟨_, h, n⟩
  · exact ⟨_, h, fun ps z => by cases z⟩
  · exact ⟨_, h, fun ps z => by cases z⟩
theorem En.extX (E : En K zs Z M H σ Γ R) (e : EyX Z.T H H') (nz : Z.nd) (nd : Γ.all Sl.nd = true) : En K zs Z M H' σ Γ R := by
  have ex : Ex (Fz M H) (Fz M H') := fun b o q => Fz.stepX q (fun o' q' n => e.1 b o' q' n) (Fz.nm q)
  refine ⟨E.len, fun i d h => ?_, fun i d h => ?_, E.dis, E.rm _ _ ex E.tmp, E.rm, E.sub, fun b hb => ?_, fun b o h n t => ?_, e.2 E.tab, E.zs, E.iok⟩
  · obtain ⟨v, h1, h2⟩ := E.im i d h
    exact ⟨v, h1, h2.mono ex⟩
  · obtain ⟨a, h1, h2, h3, h4⟩ := E.ow i d h
    refine ⟨a, h1, h2, h3, ?_⟩
    have q := List.all_eq_true.mp nd _ (List.mem_of_getElem? h)
    cases d with
    | lst ds => obtain ⟨vs, g1, g2⟩ := h4; exact ⟨vs, (e.1 a _ g1 fun ps z => (by cases z)).eq (fun k z => (by cases z)) (fun k z => (by cases z)), g2.mono ex⟩
    | ins C ns ds => obtain ⟨dx, vs, g1, gl, g2⟩ := h4; exact ⟨dx, vs, (e.1 a _ g1 fun ps z => (by cases z)).eq (fun k z => (by cases z)) (fun k z => (by cases z)), gl, g2.mono ex⟩
    | dK ks ds => cases q
    | dT ks ds => cases q
    | _ => exact h4.elim
  · obtain ⟨o, h1, h2⟩ := E.trk b hb
    obtain ⟨o', h3, _⟩ := (e.1 b o h1 h2.1).some h2.1
    rcases e.1 b o h1 h2.1 with q | ⟨k, od, rfl, q⟩ | ⟨k, od, rfl, q⟩
    · exact ⟨o, q, h2⟩
    · exact ⟨_, q, plain_frz⟩
    · exact ⟨_, q, plain_frz⟩
  · exact (e.1 b o (E.pres b o h n t) t).eq (fun k z => (nz b).1 k (by rw [h, z])) fun k z => (nz b).2 k (by rw [h, z])
end
section
variable {c : Ct} {Γ : List Sl} {Φ : Dt → List Sl → Prop} {l : List (Addr × Str)} {t : XK → TE}
/-- own things are left alone -/
def Sl.idle : Sl → Sl
  | .ow _ => .un
  | s => s
theorem toldBy.mono {K : PySem.W.Frag} {A B : Str → Prop} (m : ∀ r, A r → B r) : ∀ {l : List (Addr × Str)} {cls : Value}, toldBy K A l cls → toldBy K B l cls
  | [], _, h => h
  | _ :: _, _, ⟨b, e1, e2, e3⟩ => ⟨b, e1, fun hb => m _ (e2 hb), fun hb => (e3 hb).mono m⟩
/-- told(lambda: ..) -/
theorem w_told (ht : c.top) (hg : c.T.g = []) (nd : Γ.all Sl.nd = true) (h : ∀ E, Wp ⟨c.K, c.T, [], E, fun C => toldBy c.K (fun ret => Φ (.str ret) Γ) l (.ref C), False⟩ (t E) (Γ.map Sl.idle) fun d Γ1 => Φ d Γ) : Wp c (LamX.tLam c.T.l (TTm c.K l) t) Γ Φ := fun Z M H σ R O E Q k => by
  refine ⟨(O.tab E).1, fun H1 e1 t1 => ?_⟩
  have tb1 : TbS Z.T H1 := by
    rw [O.t]
    exact ⟨t1, fun P hP => by rw [hg] at hP; cases hP⟩
  have E1 := E.extY (H' := H1) ⟨e1, fun _ => tb1⟩
  have E2 : En c.K [] ⟨H1, M, [], Z.T⟩ M H1 σ (Γ.map Sl.idle) (fun _ => True) := by
    have look : ∀ {i : Nat} {s : Sl}, (Γ.map Sl.idle)[i]? = some s → ∃ s', Γ[i]? = some s' ∧ s'.idle = s := fun {i s} q => by
      rw [List.getElem?_map] at q
      cases e : Γ[i]? with
      | none => rw [e] at q; cases q
      | some s' => rw [e] at q; exact ⟨s', rfl, Option.some.inj q⟩
    refine ⟨by rw [List.length_map]; exact E1.len, fun i d q => ?_, fun i d q => ?_, fun i j a d e n q => ?_, trivial, fun _ _ _ _ => trivial, fun b q => q, E1.trk, fun _ _ q _ _ => q, tb1, rfl, fun _ _ q => by simp at q⟩
    · obtain ⟨s', e, e2⟩ := look q
      cases s' with
      | un => cases e2
      | im d' => cases e2; exact E1.im i d e
      | ow d' => cases e2
    · obtain ⟨s', e, e2⟩ := look q
      cases s' <;> cases e2
    · obtain ⟨s', e, e2⟩ := look q
      cases s' <;> cases e2
  refine h _ ⟨H1, M, [], Z.T⟩ M H1 σ _ ⟨O.t, fun cls H' p f tb => p.mono fun ret q => ?_, False.elim⟩ E2 Q fun v d Γ' M' H' p E3 iv => ?_
  · exact k _ _ Γ M H' q (E1.extX ⟨fun b o hb n => f b o hb (fun j => by simp) n, fun _ => tb⟩ (O.nd ht) nd) .str
  · exact k v d Γ M H' p (E1.extY ⟨fun b o hb n => E3.pres b o hb (fun j => by simp) n, fun _ => E3.tab⟩) (iv.mono fun a u q => Fz.step q (fun _ q' _ => q') fun z => Fz.nm q (E3.sub a z))
end
end DL
/-! DL12: own dicts made and written, two names at once, least and greatest -/
namespace DL
open PySem L2 Evl
section
variable {κ : Type} [DecidableEq κ]
/-- in its place, or at the end -/
def dput (kds : List (κ × Dt)) (k : κ) (d : Dt) : List (κ × Dt) :=
  if (kds.any fun p => decide (p.1 = k)) = true then kds.map (fun p => if p.1 = k then (p.1, d) else p) else kds ++ [(k, d)]
theorem any_zip (k : κ) : ∀ {kds : List (κ × Dt)} {vs : List V}, kds.length = vs.length → (((kds.map (·.1)).zip vs).any fun p => decide (p.1 = k)) = kds.any fun p => decide (p.1 = k)
  | [], [], _ => rfl
  | p :: r, v :: vs, h => by
    simp only [List.map_cons, List.zip_cons_cons, List.any_cons]
    rw [any_zip k (by simpa using h)]
theorem map_put {K : PySem.W.Frag} {F : Hp} {k : κ} {v : V} {d : Dt} (h : Is K F v d) : ∀ {kds : List (κ × Dt)} {vs : List V}, IsL K F vs (kds.map (·.2)) →
    ∃ ws, ((kds.map (·.1)).zip vs).map (fun p => if p.1 = k then (p.1, v) else p) = ((kds.map fun p => if p.1 = k then (p.1, d) else p).map (·.1)).zip ws ∧ IsL K F ws ((kds.map fun p => if p.1 = k then (p.1, d) else p).map (·.2))
  | [], _, .nil => ⟨[], rfl, .nil⟩
  | p :: r, _, .cons (v := x) i t => by
    obtain ⟨ws, e, q⟩ := map_put h (kds := r) t
    by_cases hk : p.1 = k
    · exact ⟨v :: ws, by simp only [List.map_cons, List.zip_cons_cons, if_pos hk]; rw [e], by simp only [List.map_cons, if_pos hk]; exact .cons h q⟩
    · exact ⟨x :: ws, by simp only [List.map_cons, List.zip_cons_cons, if_neg hk]; rw [e], by simp only [List.map_cons, if_neg hk]; exact .cons i q⟩
theorem dput_is {K : PySem.W.Frag} {F : Hp} {k : κ} {v : V} {d : Dt} (h : Is K F v d) {kds : List (κ × Dt)} {vs : List V} (i : IsL K F vs (kds.map (·.2))) :
    ∃ ws, putK ((kds.map (·.1)).zip vs) k v = ((dput kds k d).map (·.1)).zip ws ∧ IsL K F ws ((dput kds k d).map (·.2)) := by
  have hl : kds.length = vs.length := by
    have := i.length
    rw [List.length_map] at this
    exact this.symm
  unfold putK dput
  rw [any_zip k hl]
  split
  · exact map_put h i
  · refine ⟨vs ++ [v], ?_, ?_⟩
    · rw [List.map_append, List.zip_append (by rw [List.length_map]; exact hl)]
      rfl
    · rw [List.map_append]
      exact i.append (.cons h .nil)
theorem dput_len (kds : List (κ × Dt)) (k : κ) (d : Dt) : (dput kds k d).length ≤ kds.length + 1 := by
  unfold dput
  split
  · rw [List.length_map]; omega
  · rw [List.length_append, List.length_singleton]; exact Nat.le_refl _
end
/-- a dict of plain keys, by pairs -/
def dKd (kds : List (Key × Dt)) : Dt := .dK (kds.map (·.1)) (kds.map (·.2))
theorem len_of {κ : Type} {K : PySem.W.Frag} {F : Hp} {kds : List (κ × Dt)} {vs : List V} (h : IsL K F vs (kds.map (·.2))) : (kds.map (·.1)).length = vs.length := by
  rw [List.length_map, h.length, List.length_map]
theorem zip_len {κ : Type} {K : PySem.W.Frag} {F : Hp} {kds : List (κ × Dt)} {vs : List V} (h : IsL K F vs (kds.map (·.2))) : ((kds.map (·.1)).zip vs).length = kds.length := by
  rw [List.length_zip, len_of h, Nat.min_self, h.length, List.length_map]
section
variable {c : Ct} {Γ : List Sl} {Φ : Dt → List Sl → Prop} {Ψ : Out → Prop} {te td tv ty : TE} {ti : TE} {ta : TA}
/-- d[y] = v, d of our own -/
theorem s_dput {i : Nat} (h : Wp c tv Γ fun d Γ1 => (∃ e, Γ1[i]? = some (.ow e)) ∧ Wp c ty Γ1 fun y Γ2 => ∃ kds k, Γ2[i]? = some (.ow (dKd kds)) ∧ asKey y = some k ∧ kds.length < sizeLine ∧ Ψ (.nx (Γ2.set i (.ow (dKd (dput kds k d)))))) : Ws c (sDPut (tVar i) ty tv) Γ Ψ := fun Z M H σ R D O E G =>
  h Z M H σ R O E _ fun v d Γ1 M1 H1 ⟨⟨e, g1⟩, h1⟩ E1 iv => by
    obtain ⟨a, s1, _⟩ := E1.ow i e g1
    refine ⟨_, s1, h1 Z M1 H1 σ _ O (E1.push iv) _ fun u y Γ2 M2 H2 ⟨kds, k, g2, ek, hl, p⟩ E2 iy => ?_⟩
    obtain ⟨iv2, E3⟩ := E2.pop E.rm
    obtain ⟨a2, s2, aM, ac, vs, h4, h5, h6⟩ := E3.ow i _ g2
    rw [s1] at s2
    cases s2
    obtain ⟨ws, e1, e2⟩ := dput_is (k := k) iv2 h6
    refine ⟨a, _, rfl, .inl ⟨_, k, h4, asKey_is ek iy, by rw [zip_len h6]; exact hl, rfl⟩, ?_⟩
    rw [e1]
    exact G.nx _ _ M2 _ p (E3.mut g2 s1 h4 plain_dK plain_dK ⟨ws, upd_same, len_of e2, e2⟩)
/-- .. as one target among others -/
theorem g_dput {i : Nat} {d : Dt} {A : List Sl → Prop} (h : (∃ e, Γ[i]? = some (.ow e)) ∧ Wp c ti Γ fun y Γ2 => ∃ kds k, Γ2[i]? = some (.ow (dKd kds)) ∧ asKey y = some k ∧ kds.length < sizeLine ∧ A (Γ2.set i (.ow (dKd (dput kds k d))))) : Wg c (gSub (tVar i) ti rSetD) d Γ A := fun Z M H σ R v O E iv Q kk => by
  obtain ⟨⟨e, g1⟩, h1⟩ := h
  obtain ⟨a, s1, _⟩ := E.ow i e g1
  refine ⟨_, s1, h1 Z M H σ _ O (E.push iv) _ fun u y Γ2 M2 H2 ⟨kds, k, g2, ek, hl, p⟩ E2 iy => ?_⟩
  obtain ⟨iv2, E3⟩ := E2.pop E.rm
  obtain ⟨a2, s2, aM, ac, vs, h4, h5, h6⟩ := E3.ow i _ g2
  rw [s1] at s2
  cases s2
  obtain ⟨ws, e1, e2⟩ := dput_is (k := k) iv2 h6
  unfold rSetD
  refine ⟨a, _, rfl, .inl ⟨_, k, h4, asKey_is ek iy, by rw [zip_len h6]; exact hl, rfl⟩, ?_⟩
  rw [e1]
  exact kk _ σ M2 _ p (E3.mut g2 s1 h4 plain_dK plain_dK ⟨ws, upd_same, len_of e2, e2⟩)
/-- the pairs of a display -/
def Wpp (c : Ct) (trs : List (TE × TE)) (Γ : List Sl) (A : List (Key × Dt) → List Sl → Prop) : Prop :=
  ∀ Z M H σ R, c.Ok Z → En c.K c.zs Z M H σ Γ R → ∀ Q : List (V × V) → Hp → Prop, (∀ ks vs kds Γ' M' H', ks = kds.map (·.1) → A kds Γ' → En c.K c.zs Z M' H' σ Γ' R → IsL c.K (Fz M' H') vs (kds.map (·.2)) → Q ((ks.zip vs).map fun kv => (kV kv.1, kv.2)) H') → tPairs trs σ H Q
theorem pp_nil {A : List (Key × Dt) → List Sl → Prop} (q : A [] Γ) : Wpp c [] Γ A := fun Z M H σ R O E Q k => k [] [] [] Γ M H rfl q E .nil
theorem pp_cons {trs : List (TE × TE)} {A : List (Key × Dt) → List Sl → Prop} (h : Wp c ty Γ fun x Γ1 => ∃ k, asKey x = some k ∧ Wp c tv Γ1 fun y Γ2 => Wpp c trs Γ2 fun kds Γ3 => A ((k, y) :: kds) Γ3) : Wpp c ((ty, tv) :: trs) Γ A := fun Z M H σ R O E Q kk =>
  h Z M H σ R O E _ fun u x Γ1 M1 H1 ⟨k, ek, h1⟩ E1 iu => by
    have eu := asKey_is ek iu
    subst eu
    refine h1 Z M1 H1 σ _ O E1 _ fun v y Γ2 M2 H2 h2 E2 iv => ?_
    refine h2 Z M2 H2 σ _ O (E2.push iv) _ fun ks vs kds Γ3 M3 H3 eks h3 E3 i3 => ?_
    obtain ⟨iv3, E4⟩ := E3.pop E.rm
    exact kk (k :: ks) (v :: vs) ((k, y) :: kds) Γ3 M3 H3 (by rw [eks]; rfl) h3 E4 (.cons iv3 i3)
/-- what many puts make -/
def dmerge (kds more : List (Key × Dt)) : List (Key × Dt) := more.foldl (fun acc p => dput acc p.1 p.2) kds
theorem merge_is {K : PySem.W.Frag} {F : Hp} : ∀ {more : List (Key × Dt)} {ws : List V} {kds : List (Key × Dt)} {vs : List V}, IsL K F ws (more.map (·.2)) → IsL K F vs (kds.map (·.2)) →
    ∃ us, mergeK ((kds.map (·.1)).zip vs) ((more.map (·.1)).zip ws) = ((dmerge kds more).map (·.1)).zip us ∧ IsL K F us ((dmerge kds more).map (·.2))
  | [], _, kds, vs, .nil, i => ⟨vs, rfl, i⟩
  | p :: r, _, kds, vs, .cons (v := w) h t, i => by
    obtain ⟨us, e1, e2⟩ := dput_is (k := p.1) h i
    obtain ⟨us', f1, f2⟩ := merge_is (more := r) t e2
    refine ⟨us', ?_, f2⟩
    have f1' : mergeK (((dput kds p.1 p.2).map (·.1)).zip us) ((r.map (·.1)).zip _) = _ := f1
    rw [← e1] at f1'
    exact f1'
/-- an object made meanwhile, of our own from now on -/
theorem En.unlockO {K : PySem.W.Frag} {zs : List Nat} {Z : Zn} {M : List Addr} {H : Hp} {σ : L2.St} {R : Hp → Prop} {D : Addr} {o : HO} (E : En K zs (Z.lock D o) M H σ Γ R) (hio : ∀ j, (j, D) ∉ Z.io) (h0 : ∀ u, noTbl u → Z.H0 D ≠ some u) : En K zs Z M H σ Γ R := by
  refine ⟨E.len, E.im, fun i d h => ?_, E.dis, E.tmp, E.rm, fun a h => E.sub a (List.mem_cons_of_mem _ h), E.trk, fun a u h n t => ?_, E.tab, E.zs, fun i a h => ?_⟩
  · obtain ⟨a, h1, h2, h3, h4⟩ := E.ow i d h
    have n := lock_ne hio h3
    refine ⟨a, h1, h2, ?_, h4⟩
    rcases h3 with h3 | ⟨h3, h5⟩
    · exact .inl h3
    · refine .inr ⟨fun u t => ?_, fun q => h5 (List.mem_cons_of_mem _ q)⟩
      have h3' : upd Z.H0 D o a ≠ some u := h3 u t
      rw [upd_ne n] at h3'
      exact h3'
  · have n' : a ≠ D := fun e => h0 u t (by rw [← e]; exact h)
    exact E.pres a u (by show upd Z.H0 D o a = some u; rw [upd_ne n']; exact h) n t
  · obtain ⟨a1, a2⟩ := E.iok i a h
    rcases List.mem_cons.mp a1 with e | a1
    · subst e
      exact (hio i h).elim
    · exact ⟨a1, a2⟩
theorem Ct.Ok.lock {Z : Zn} {D : Addr} {o : HO} (O : c.Ok Z) (hx : ∀ u, noTbl u → Z.H0 D ≠ some u) (nd : c.top → (∀ k, o ≠ .dK k) ∧ ∀ k, o ≠ .dT k) : c.Ok (Z.lock D o) :=
  ⟨O.t, fun cls H' p f tb => O.x cls H' p (fun a u e n t => f a u (show upd Z.H0 D o a = some u by rw [upd_ne fun z => hx u t (by rw [← z]; exact e)]; exact e) n t) tb, fun q a => by
    by_cases e : a = D
    · subst e
      exact ⟨fun k z => (nd q).1 k (by have z' : upd Z.H0 a o a = _ := z; rw [upd_same] at z'; exact Option.some.inj z'), fun k z => (nd q).2 k (by have z' : upd Z.H0 a o a = _ := z; rw [upd_same] at z'; exact Option.some.inj z')⟩
    · exact ⟨fun k z => (O.nd q a).1 k (by have z' : upd Z.H0 D o a = _ := z; rw [upd_ne e] at z'; exact z'), fun k z => (O.nd q a).2 k (by have z' : upd Z.H0 D o a = _ := z; rw [upd_ne e] at z'; exact z')⟩⟩
/-- {k: v, ..}, of our own from now on; nothing that is told of may be asked while the pairs are made -/
theorem n_disp {trs : List (TE × TE)} (h : Wpp { c with top := False } trs Γ fun kds Γ1 => kds.length ≤ 15 ∧ Φ (dKd (dmerge [] kds)) Γ1) : Wn c (tDisp trs) Γ Φ := fun Z M H σ R O E Q kk D hD => by
  have nM := Trk.ne E.trk hD
  have hio : ∀ j, (j, D) ∉ Z.io := fun j q => nM (E.sub D (E.iok j D q).1)
  have hB : D ∉ Z.B := fun q => nM (E.sub D q)
  have h0 : ∀ u, noTbl u → Z.H0 D ≠ some u := fun u t q => by
    have := E.pres D u q hio t
    rw [hD] at this
    cases this
  have EL := E.lock (o := .dK []) hD plain_dK
  have O' : Ct.Ok { c with top := False } Z := ⟨O.t, O.x, False.elim⟩
  refine h (Z.lock D (.dK [])) _ _ σ R (O'.lock h0 False.elim) EL _ fun ks vs kds Γ1 M1 H1 eks ⟨hl, p⟩ E1 i1 => ?_
  subst eks
  have hH := E1.held hio plain_dK
  obtain ⟨us, e1, e2⟩ := merge_is (kds := []) (vs := []) i1 .nil
  refine ⟨hH, (kds.map (·.1)).zip vs, rfl, by rw [zip_len i1]; exact hl, ?_⟩
  have hDM : D ∈ M1 := E1.sub D List.mem_cons_self
  have eF : ∀ o, Fz M1 (upd H1 D o) = Fz M1 H1 := fun o => by
    funext a
    unfold Fz
    by_cases h : a ∈ M1
    · rw [if_pos h, if_pos h]
    · rw [if_neg h, if_neg h, upd_ne (fun e => h (by rw [e]; exact hDM))]
  have E2 := (E1.relock (o' := .dK (((dmerge [] kds).map (·.1)).zip us)) hio plain_dK plain_dK).unlockO hio h0
  have e1' : mergeK [] ((kds.map (·.1)).zip vs) = ((dmerge [] kds).map (·.1)).zip us := e1
  rw [e1']
  refine kk D _ Γ1 M1 _ p E2 hDM h0 hB (fun j e hj hs => ?_) ⟨us, upd_same, len_of e2, by rw [eF]; exact e2⟩
  obtain ⟨a, q1, q2, q3, _⟩ := E1.ow j e hj
  rw [hs] at q1
  cases q1
  exact lock_ne hio q3 rfl
/-- a, b = x, y -/
theorem s_par {i j : Nat} (hi : (Γ[i]?).isSome = true) (hj : (Γ[j]?).isSome = true) (hz : c.zs.contains i = false) (hz' : c.zs.contains j = false) (h : Wa c ta Γ fun ds Γ1 => ∃ d e, ds = [d, e] ∧ Γ1.length = Γ.length ∧ Ψ (.nx ((Γ1.set i (.im d)).set j (.im e)))) : Ws c (tPar i j ta) Γ Ψ := fun Z M H σ R D O E G =>
  h Z M H σ R O E _ fun vs ds Γ1 M1 H1 ⟨d, e, eds, hl, p⟩ E1 iv => by
    subst eds
    cases iv with
    | cons i1 i2 =>
      cases i2 with
      | cons i3 i4 =>
        cases i4
        have lt : ∀ {k : Nat}, (Γ[k]?).isSome = true → k < Γ1.length := fun {k} q => by
          rw [hl]
          cases e : Γ[k]? with
          | none => rw [e] at q; cases q
          | some x => exact (List.getElem?_eq_some_iff.mp e).1
        have nz : ∀ {k : Nat}, c.zs.contains k = false → k ∉ c.zs := fun {k} q m => by
          rw [List.contains_iff_mem.mpr m] at q
          cases q
        exact ⟨_, _, rfl, G.nx _ _ M1 H1 p ((E1.set i1 (lt hi) (nz hz)).set i3 (by rw [List.length_set]; exact lt hj) (nz hz'))⟩
/-- a, b = a new object, a constant -/
theorem s_parN {i j : Nat} {v : V} {e : Dt} (hi : (Γ[i]?).isSome = true) (hj : (Γ[j]?).isSome = true) (hij : i ≠ j) (hz : c.zs.contains i = false) (hz' : c.zs.contains j = false) (hv : ∀ F, Is c.K F v e) (h : Wn c te Γ fun d Γ1 => Γ1.length = Γ.length ∧ Ψ (.nx ((Γ1.set i (.ow d)).set j (.im e)))) : Ws c (tPar i j (tCons te (tCons (tC v) tNil))) Γ Ψ := fun Z M H σ R D O E G =>
  h Z M H σ R O E _ fun p d Γ1 M1 H1 ⟨hl, q⟩ E1 pM p0 pB nd ob => by
    have lt : ∀ {k : Nat}, (Γ[k]?).isSome = true → k < Γ1.length := fun {k} q => by
      rw [hl]
      cases e : Γ[k]? with
      | none => rw [e] at q; cases q
      | some x => exact (List.getElem?_eq_some_iff.mp e).1
    have nz : ∀ {k : Nat}, c.zs.contains k = false → k ∉ c.zs := fun {k} q m => by
      rw [List.contains_iff_mem.mpr m] at q
      cases q
    exact ⟨_, _, rfl, G.nx _ _ M1 H1 q ((E1.setO pM p0 pB nd ob (lt hi) (nz hz)).set (hv _) (by rw [List.length_set]; exact lt hj) (nz hz'))⟩
end
section
variable {K : PySem.W.Frag} {P : Dt → Prop} {ns : List Int}
theorem rc_max (hl : 0 < ns.length) (h : ∀ m, m ∈ ns → (∀ y, y ∈ ns → y ≤ m) → P (.int m)) : RC1 K (rMax K) [.lst (ns.map Dt.int)] P := fun M H vs t i Q q => by
  cases i with
  | cons i1 i2 =>
    cases i2
    obtain ⟨a, ws, rfl, h1, i3⟩ := sqL_is i1
    have e := IsL.of_ints i3
    subst e
    exact ⟨a, ns, rfl, SqL.of h1, hl, fun m hm hy => q _ _ H (h m hm hy) (Ex.refl H) .int⟩
theorem rc_min (hl : 0 < ns.length) (h : ∀ m, m ∈ ns → (∀ y, y ∈ ns → m ≤ y) → P (.int m)) : RC1 K (rMin K) [.lst (ns.map Dt.int)] P := fun M H vs t i Q q => by
  cases i with
  | cons i1 i2 =>
    cases i2
    obtain ⟨a, ws, rfl, h1, i3⟩ := sqL_is i1
    have e := IsL.of_ints i3
    subst e
    exact ⟨a, ns, rfl, SqL.of h1, hl, fun m hm hy => q _ _ H (h m hm hy) (Ex.refl H) .int⟩
end
end DL
/-! DLE: an instance compared with a text -/
namespace DL
open PySem PySem.Spec PyProof.Rows L2 Evl PySem.W
/-- what the class at C must have: no == of its own -/
structure NoEq (K : PySem.W.Frag) (C : Addr) : Prop where
  eq : findIn K (.ref C) "__eq__" = some (some (.builtin "object.__eq__"))
  ne : findIn K (.ref C) "__ne__" = some (some (.builtin "object.__ne__"))
  st : subIn K (.type "str") (.ref C) = some false
  ob : mroIn K C (.type "object") = some true
section
variable {prog : Program} {w : World} {A : Around} {E : Value → Shared → Prop} {s : Shared} {K : PySem.W.Frag} {x C dx : Addr} {od : Option Obj} {z : Str} {t : Tok}
theorem oeq_str {Q : Fin → Shared → Prop} (h : Q (.done (.ret .notImplemented)) s) : wpAny (model prog w) A (Builtin.«object.__eq__» ⟨[.ref x, .str z t], []⟩) Q E s := by
  unfold Builtin.«object.__eq__»
  repeat (first | (with_reducible refine wpAny_bind (wpAny_of_eq (rfl : isSame (.ref x) (.str z t) = pure false) ?_)) | wp_step)
  exact h
theorem call_oeq_str (X : K.In s.heap) (I : InstAt s.heap x (instObj C dx) C od) (N : NoEq K C) {Q : Value → Shared → Prop} (h : Q .notImplemented s) : wpAny (model prog w) A (call (.builtin "object.__eq__") [.ref x, .str z t]) Q E s := by
  have sub : Looks (model prog w) s.heap (isInstance (.ref x) (.type "object")) true := I.type.andThen (looks_mroIn X N.ob)
  refine wpAny_call (codeAny_call_builtin F.cmp_object.eq.plain F.cmpEntry_eq (@check_slot (model prog w) _ _ s "object.__eq__" "object" "__eq__" (.ref x) [.str z t] [] _ F.cmpKind_eq F.cmpSplit_eq sub (F.cmpArgs_eq _ _) ?_))
  exact oeq_str h
theorem bound_oeq_str (X : K.In s.heap) (I : InstAt s.heap x (instObj C dx) C od) (N : NoEq K C) {Q : Option Value → Shared → Prop} (h : Q (some .notImplemented) s) : wpAny (model prog w) A (callSpecialIfBound? (.ref x) "__eq__" [.str z t]) Q E s := by
  simp only [callSpecialIfBound?, bindSpecialIfBound?]
  refine wpAny_holding (wpAny_bind (wpAny_bind (wpAny_bind (I.type.here ((looks_findIn X N.eq).here ?_)))))
  simp only [F.cmp_object.eq.bind]
  refine wpAny_bind (wpAny_askSetting (wpAny_ite ?_))
  have fin : wpAny (model prog w) A (call (.builtin "object.__eq__") ([.ref x] ++ [.str z t]) >>= fun v => pure (some v)) Q E s := wpAny_bind (call_oeq_str X I N (wpAny_pure h))
  split
  · exact wpAny_bind (wpAny_pure (wpAny_pure fin))
  · exact wpAny_tryCatch (wpAny_bind (wpAny_pure (wpAny_pure fin)))
theorem seq_ins (hx : s.heap.get? x = some (instObj C dx)) {Q : Fin → Shared → Prop} (h : Q (.done (.ret .notImplemented)) s) : wpAny (model prog w) A (Builtin.«str.__eq__» ⟨[.str z t, .ref x], []⟩) Q E s := by
  unfold Builtin.«str.__eq__»
  obtain ⟨hp, g, d, tk, os⟩ := s
  wp_walk using AutoSeq1.wpAny_loadPart' hx, wpAny_load hx
  exact h
theorem bound_seq (hx : s.heap.get? x = some (instObj C dx)) {Q : Option Value → Shared → Prop} (h : Q none s) : wpAny (model prog w) A (tryCompare (.str z t) "__eq__" (.ref x)) Q E s := by
  refine wpAny_tryCompare_declines (typeIs_str s z t) F.slot_str_eq_refl ?_
  refine wpAny_call (codeAny_call_builtin F.slot_str_eq_refl.plain F.entry_str_eq (F.slot_str_eq_refl.check _ _ _ _ _ _ _ _ (typeIs_str s z t) (F.args_str_eq_2 _ _) ?_))
  exact seq_ins hx ⟨rfl, h⟩
theorem rc_ins_str (hu : A.units < cLine) (X : K.In s.heap) (I : InstAt s.heap x (instObj C dx) C od) (N : NoEq K C) {Q : Value → Shared → Prop} (h : Q (.bool false) s) : wpAny (model prog w) A (richCompare .Eq (.ref x) (.str z t)) Q E s := by
  unfold richCompare
  simp only [oneThing_ref]
  refine wpAny_holding (wpAny_bind (wpAny_cRoomFor hu ?_))
  refine wpAny_bind (I.type.here (wpAny_bind (wpAny_typeOf (typeIs_str s z t) ?_)))
  rw [if_pos (by simp)]
  refine wpAny_bind ((looks_subIn X N.st).here ?_)
  simp only [Bool.false_eq_true, if_false, Bool.not_false, if_true]
  refine wpAny_bind (m := tryCompare (.ref x) _ (.str z t)) ?_
  unfold tryCompare
  refine wpAny_bind (bound_oeq_str X I N (wpAny_pure ?_))
  refine wpAny_bind (bound_seq I.at_ ?_)
  exact wpAny_bind (wpAny_rule (wpAny_bind (wpAny_of_eq (rfl : isSame (.ref x) (.str z t) = pure false) (wpAny_pure h))))
theorem one_ne (hx : s.heap.get? x = some (instObj C dx)) {Q : Fin → Shared → Prop} (h : Q (.done (.ret .notImplemented)) s) : wpAny (model prog w) A (Builtin.«str.__ne__» ⟨[.str z t, .ref x], []⟩) Q E s := by
  unfold Builtin.«str.__ne__»
  obtain ⟨hp, g, d, tk, os⟩ := s
  wp_walk using AutoSeq1.wpAny_loadPart' hx, wpAny_load hx
  exact h
theorem bound_sne (hx : s.heap.get? x = some (instObj C dx)) {Q : Option Value → Shared → Prop} (h : Q none s) : wpAny (model prog w) A (tryCompare (.str z t) "__ne__" (.ref x)) Q E s := by
  refine wpAny_tryCompare_declines (typeIs_str s z t) F.slot_str_ne_refl ?_
  refine wpAny_call (codeAny_call_builtin F.slot_str_ne_refl.plain F.entry_str_ne (F.slot_str_ne_refl.check _ _ _ _ _ _ _ _ (typeIs_str s z t) (F.args_str_ne_2 _ _) ?_))
  exact one_ne hx ⟨rfl, h⟩
theorem one_str (hu : A.units < cLine) (X : K.In s.heap) (I : InstAt s.heap x (instObj C dx) C od) (N : NoEq K C) {Q : Fin → Shared → Prop} (h : Q (.done (.ret .notImplemented)) s) : wpAny (model prog w) A (Builtin.«object.__ne__» ⟨[.ref x, .str z t], []⟩) Q E s := by
  unfold Builtin.«object.__ne__»
  repeat (first | with_reducible refine wpAny_cRoomFor hu ?_ | with_reducible refine bound_oeq_str X I N ?_ | wp_step)
  exact h
theorem bound_one_str (hu : A.units + 1 < cLine) (X : K.In s.heap) (I : InstAt s.heap x (instObj C dx) C od) (N : NoEq K C) {Q : Option Value → Shared → Prop} (h : Q (some .notImplemented) s) : wpAny (model prog w) A (callSpecialIfBound? (.ref x) "__ne__" [.str z t]) Q E s := by
  have sub : Looks (model prog w) s.heap (isInstance (.ref x) (.type "object")) true := I.type.andThen (looks_mroIn X N.ob)
  have call1 : ∀ Q : Value → Shared → Prop, Q .notImplemented s → wpAny (model prog w) A (call (.builtin "object.__ne__") [.ref x, .str z t]) Q E s := fun Q h => by
    refine wpAny_call (codeAny_call_builtin F.cmp_object.ne.plain F.cmpEntry_ne (@check_slot (model prog w) _ _ s "object.__ne__" "object" "__ne__" (.ref x) [.str z t] [] _ F.cmpKind_ne F.cmpSplit_ne sub (F.cmpArgs_ne _ _) ?_))
    exact one_str (A := A.in1) hu X I N h
  simp only [callSpecialIfBound?, bindSpecialIfBound?]
  refine wpAny_holding (wpAny_bind (wpAny_bind (wpAny_bind (I.type.here ((looks_findIn X N.ne).here ?_)))))
  simp only [F.cmp_object.ne.bind]
  refine wpAny_bind (wpAny_askSetting (wpAny_ite ?_))
  have fin : wpAny (model prog w) A (call (.builtin "object.__ne__") ([.ref x] ++ [.str z t]) >>= fun v => pure (some v)) Q E s := wpAny_bind (call1 _ (wpAny_pure h))
  split
  · exact wpAny_bind (wpAny_pure (wpAny_pure fin))
  · exact wpAny_tryCatch (wpAny_bind (wpAny_pure (wpAny_pure fin)))
theorem rn_ins_str (hu : A.units + 1 < cLine) (X : K.In s.heap) (I : InstAt s.heap x (instObj C dx) C od) (N : NoEq K C) {Q : Value → Shared → Prop} (h : Q (.bool true) s) : wpAny (model prog w) A (richCompare .NotEq (.ref x) (.str z t)) Q E s := by
  unfold richCompare
  simp only [oneThing_ref]
  refine wpAny_holding (wpAny_bind (wpAny_cRoomFor (Nat.lt_of_succ_lt hu) ?_))
  refine wpAny_bind (I.type.here (wpAny_bind (wpAny_typeOf (typeIs_str s z t) ?_)))
  rw [if_pos (by simp)]
  refine wpAny_bind ((looks_subIn X N.st).here ?_)
  simp only [Bool.false_eq_true, if_false, Bool.not_false, if_true]
  refine wpAny_bind (m := tryCompare (.ref x) _ (.str z t)) ?_
  unfold tryCompare
  refine wpAny_bind (bound_one_str hu X I N (wpAny_pure ?_))
  refine wpAny_bind (bound_sne I.at_ ?_)
  exact wpAny_bind (wpAny_rule (wpAny_bind (wpAny_of_eq (rfl : isSame (.ref x) (.str z t) = pure false) (wpAny_pure h))))
end
section
variable {K : PySem.W.Frag} {C : Addr} {P : Dt → Prop}
def rEqZ (K : PySem.W.Frag) (C : Addr) : R2 := fun x y H Q => rEqX K x y H Q ∨ ∃ a d fs z, x = .ref a ∧ y = .str z ∧ H a = some (.ins C d fs) ∧ Q (.bl false) H
def rNeZ (K : PySem.W.Frag) (C : Addr) : R2 := fun x y H Q => rNeX K x y H Q ∨ ∃ a d fs z, x = .ref a ∧ y = .str z ∧ H a = some (.ins C d fs) ∧ Q (.bl true) H
theorem op_eqZ {X : Cx} (K : PySem.W.Frag) (hK : X.K = K) (hu : X.A.units + 64 < cLine) (N : NoEq K C) : OpR X (compareOp .Eq) (rEqZ K C) := by
  subst hK
  refine fun pins s σ H x y v u Q I rx ry h => ?_
  rcases h with h | ⟨a, d, fs, z, rfl, rfl, ha, q⟩
  · exact op_eqX hu pins s σ H x y v u Q I rx ry h
  · cases rx
    obtain ⟨t, rfl⟩ := ry
    obtain ⟨mA, J, _⟩ := ins_get I.hok ha
    obtain ⟨od, J, _⟩ := J.look
    exact rc_ins_str (Nat.lt_of_le_of_lt (Nat.le_add_right _ _) hu) I.kIn J N ⟨.bl false, H, I, rfl, q⟩
theorem op_neZ {X : Cx} (K : PySem.W.Frag) (hK : X.K = K) (hu : X.A.units + 64 < cLine) (N : NoEq K C) : OpR X (compareOp .NotEq) (rNeZ K C) := by
  subst hK
  refine fun pins s σ H x y v u Q I rx ry h => ?_
  rcases h with h | ⟨a, d, fs, z, rfl, rfl, ha, q⟩
  · exact op_neX hu pins s σ H x y v u Q I rx ry h
  · cases rx
    obtain ⟨t, rfl⟩ := ry
    obtain ⟨mA, J, _⟩ := ins_get I.hok ha
    obtain ⟨od, J, _⟩ := J.look
    exact rn_ins_str (Nat.lt_of_le_of_lt (Nat.add_le_add_left (by decide) _) hu) I.kIn J N ⟨.bl true, H, I, rfl, q⟩
theorem rd_eqZ {x y : Dt} (h : RD K (rEqX K) x y P) : RD K (rEqZ K C) x y P := fun M H v w t iv iw Q q => .inl (h M H v w t iv iw Q q)
theorem rd_neZ {x y : Dt} (h : RD K (rNeX K) x y P) : RD K (rNeZ K C) x y P := fun M H v w t iv iw Q q => .inl (h M H v w t iv iw Q q)
theorem rd_eqZi {ns : List Str} {ds : List Dt} {z : Str} (h : P (.bl false)) : RD K (rEqZ K C) (.ins C ns ds) (.str z) P := fun M H v w t iv iw Q q => by
  cases iv with
  | ins g1 g2 g3 =>
    cases iw
    exact .inr ⟨_, _, _, z, rfl, rfl, Fz.ins g1, q _ _ H h (Ex.refl H) .bl⟩
theorem rd_neZi {ns : List Str} {ds : List Dt} {z : Str} (h : P (.bl true)) : RD K (rNeZ K C) (.ins C ns ds) (.str z) P := fun M H v w t iv iw Q q => by
  cases iv with
  | ins g1 g2 g3 =>
    cases iw
    exact .inr ⟨_, _, _, z, rfl, rfl, Fz.ins g1, q _ _ H h (Ex.refl H) .bl⟩
end
end DL
/-! DLL: lambdas that capture nothing, kept and called later -/
namespace DL
open PySem PySem.Spec PyProof.Rows L2 Evl LamX
structure LB where
  q : Str
  ps : Arguments
  b : Expr
  sc : Scope
  t : XK → TE
structure LBok (P : Program) (w : World) (K : PySem.W.Frag) (mg : Str → Option Value) (base : Heap) (k : Nat) (L : LB) : Prop where
  S : FnScope [] [] L.sc
  bind : ∀ (q : Str) (cl : List (Str × Addr)) (m cv ct : Value), bindArgs (PySem.W.kla_fn "<lambda>" q L.ps L.b L.sc cl m cv ct) ⟨[], []⟩ = pure []
  body : ∀ (A : Around) (outer : List Env) (s : Shared) (H : Hp) (E : XK) (f co : Addr), Room k (A.deeper (envOfC L.q L.sc s.heap.objs.size f (.ref co))) →
    PE (cxOf (L2.CX P w) P w K mg base [] L.q L.sc f (.ref co) A outer s H E) L.b (L.t E)
theorem clo_nil {cells : List (Str × Addr)} : ∀ {ns : List (Str × NameKind)}, (∀ y ∈ ns, y.2 ≠ .free) → cloFrom cells ns [] = []
  | [], _ => rfl
  | (n, k) :: r, h => by
    unfold cloFrom
    rw [if_neg (by simpa using h _ List.mem_cons_self)]
    exact clo_nil fun y hy => h y (List.mem_cons_of_mem _ hy)
section
variable {X : Cx} {pins : List (Addr × Obj)} {σ : L2.St} {H : Hp} {s : Shared}
/-- the made function is known from now on -/
theorem inv_lam {q : Str} {ps : Arguments} {b : Expr} {sc : Scope} {co : Addr} {m ct : Value} {t' : Nat} (I : Inv X pins σ H s) :
    Inv X pins σ (upd H s.heap.objs.size (LamO s.heap.objs.size q ps b sc co)) { s with heap := s.heap.push (PySem.W.kla_obj "<lambda>" q ps b sc [] m co ct), toks := t' } := by
  have at_ : (s.heap.push (PySem.W.kla_obj "<lambda>" q ps b sc [] m co ct)).get? s.heap.objs.size = some (PySem.W.kla_obj "<lambda>" q ps b sc [] m co ct) := Heap.get?_push_size _ rfl
  refine I.laid (a := s.heap.objs.size) (fun c u z => Heap.get?_push_of_some _ z) (Nat.le_refl _) ⟨⟨m, ct, at_⟩, ⟨_, at_⟩, fun h1 h2 ⟨m', t', z⟩ st => ⟨m', t', st _ z⟩⟩
theorem grows_add {P p : Addr} {q : Str} {H1 H2 : Hp} {o : HO} (g : Grows P q H1 H2) (hp : H2 p = none) : Grows P q H1 (upd H2 p o) :=
  ⟨fun b u e n => (upd_ne (ne_of_none (g.1 b u e n) hp)).trans (g.1 b u e n), fun T a b t => (g.2 T a b t).ext fun c u e => (upd_ne (ne_of_none e hp)).trans e⟩
/-- a lambda, not called yet -/
def tLamO (P : Addr) (q : Str) (ps : Arguments) (b : Expr) (sc : Scope) : TE := fun σ H Q => TabS H P q ∧ ∀ f co H2, Grows P q H H2 → H f = none → (H co = none ∨ H co = some (CodeO co q)) → H2 f = some (LamO f q ps b sc co) → H2 co = some (CodeO co q) → Q (.ref f) H2
theorem pe_lamO (qn q : Str) (hq : X.env.qual = qn) (hqq : qn ++ "<lambda>" = q) {c P : Addr} {ps : Arguments} {b : Expr} {sc : Scope} {pos : Pos} (TB : GxR.TabB X.base X.mg c P) (hco : X.env.code = .ref c) (hf : ∀ y ∈ sc.names, y.2 ≠ .free) (hd : defaultsOf ps X.env = ([], []) := by rfl) :
    PE X (.Lambda ps b sc pos) (tLamO P q ps b sc) := by
  subst hqq hq
  refine ⟨fun pins s σ H Q I h => ?_⟩
  obtain ⟨⟨tb, hP, ht, ha⟩, h⟩ := h
  have bt := TB.bm.keeps I.bk
  have hP' : s.heap.get? P = some { cls := .none, data := .fields tb } := I.hok P _ hP
  have ec : cloFrom X.env.cells sc.names [] = [] := clo_nil hf
  have hcl : closureFor sc X.env = pure [] := by rw [closure_ok (fun y hy e => (hf y hy e).elim), ec]
  refine PySem.W.kla_eval hd ?_
  cases hc : codeAmong pos tb.toList with
  | none =>
    refine PySem.W.kla_makeFunction (mg := X.mg) (c := c) (P := P) (ps := tb) hcl I.ok.glob (I.mod.glob.keeps I.bk) hco (TB.code.keeps I.bk) hP' ht hc TB.gP bt fun co ct h' tk hx hge hlt hrec htb => ?_
    obtain ⟨c2, oc, vs, t, e2, hoc, hdt, hv⟩ := hrec
    cases e2
    have J := inv_tabc (q := X.env.qual ++ "<lambda>") (more := #[rawInt pos.line, rawInt pos.col, .ref co]) (h' := h') (g' := s.gens) (d' := s.drawn) (t' := tk) I hP (fun b' o hb e => hx b' o hb e) htb I.bare hge ⟨oc, vs, t, hoc, hdt, hv⟩
    have J2 := inv_lam (q := X.env.qual ++ "<lambda>") (ps := ps) (b := b) (sc := sc) (co := co) (m := (X.mg "__name__").getD .none) (ct := ct) (t' := tk) J
    have nn := J.hok.fresh (Nat.le_refl _)
    have nC := I.hok.fresh hge
    refine ⟨.ref h'.objs.size, _, J2, rfl, h _ co _ (grows_add (grows_new hP nC ht) nn) (I.hok.fresh (Nat.le_trans hge (Nat.le_of_lt hlt))) (.inl nC) upd_same ?_⟩
    exact (upd_ne (Nat.ne_of_lt hlt)).trans upd_same
  | some cv =>
    obtain ⟨co, e, hcd⟩ := ha pos cv hc
    subst e
    refine PySem.W.kla_makeFunctionHit (mg := X.mg) (c := c) (P := P) (ps := tb) hcl I.ok.glob (I.mod.glob.keeps I.bk) hco (TB.code.keeps I.bk) hP' ht hc bt fun ct h' tk hx hsz => ?_
    have J : Inv X pins σ H { s with heap := h', toks := tk } := I.kept fun b' o e => hx b' o e
    have J2 := inv_lam (q := X.env.qual ++ "<lambda>") (ps := ps) (b := b) (sc := sc) (co := co) (m := (X.mg "__name__").getD .none) (ct := ct) (t' := tk) J
    have nn := J.hok.fresh (Nat.le_refl _)
    refine ⟨.ref h'.objs.size, _, J2, rfl, h _ co _ (grows_add (Grows.refl _ _ _) nn) nn (.inr hcd) upd_same ?_⟩
    exact (upd_ne (ne_of_none hcd nn)).trans hcd
/-- a(), a the name of such a lambda -/
def tCallL (P : Program) (w : World) (K : PySem.W.Frag) (mg : Str → Option Value) (base : Heap) (k i : Nat) (E : XK) : TE := fun σ H Q => ∃ (L : LB) (f co : Addr), LBok P w K mg base k L ∧ σ[i]? = some (some (.ref f)) ∧ H f = some (LamO f L.q L.ps L.b L.sc co) ∧ H co = some (CodeO co L.q) ∧ L.t E [] H Q
theorem pe_callL {a : Str} {i k : Nat} {E : XK} {p1 p2 : Pos} (hN : X.N[i]? = some a) (hv : Vis X.env.scope a) (hr : Room (k + 1) X.A) (hx : Passes (L2.CX X.prog X.w) X E) (hd : (a == ("__debug__" : Str)) = false := by decide) (hcd : (a == ("__classdict__" : Str)) = false := by decide) :
    PE X (.Call (.Name a p1) [] [] p2) (tCallL X.prog X.w X.K X.mg X.base k i E) := by
  refine ⟨fun pins s σ H Q I h => ?_⟩
  obtain ⟨L, f, co, ok, hs, hf, hc, ht⟩ := h
  refine wpAny_Call_Name_kw (thn ((pe_var (pos := p1) (i := i) hN hv hd hcd).run pins s σ H (fun v H1 => v = .ref f ∧ H1 = H) I ⟨.ref f, hs, rfl, rfl⟩) fun u s1 ⟨v, H1, I1, r1, e1, e2⟩ => ?_)
  subst e1
  rw [e2] at I1
  obtain rfl : u = Value.ref f := r1
  obtain ⟨⟨m, ct, of1⟩, _, _⟩ := I1.hok f _ hf
  obtain ⟨⟨oc, vs, t, hoc, hdc, hvc⟩, _, _⟩ := I1.hok co _ hc
  refine PySem.W.callWith_F0 ⟨_, _, _, _, of1⟩ ?_
  have e0 := I1.env0
  have lim := I1.nolimit
  have rc : codeAny (model X.prog X.w) X.A (.call (.ref f) ⟨[], []⟩) (CR (L2.CX X.prog X.w) X.stack X.prog X.w H s1 Q E) s1 := by
    refine PySem.W.kla_callFunE hr.depth of1 rfl ok.S.co ok.S.gen rfl ⟨co, oc, vs, t, rfl, hoc, hdc, hvc⟩ ?_
    rw [ok.bind]
    refine wpAny_pure (wpAny_newFunctionEnv_cells ok.S.kind (fun y hy => absurd hy (by simp)) fun env he s2 x => ?_)
    subst he
    refine ⟨lim.keeps x.toInCall.keep, ?_⟩
    have J : Inv (cxOf (L2.CX X.prog X.w) X.prog X.w X.K X.mg X.base [] L.q L.sc f (.ref co) X.A X.stack s1 H E) [] [] H s2 := inv_start (us := []) (vs := []) (ps := []) ok.S hr.hd e0 rfl .nil x
    refine PySem.W.kla_codeExpr (wpAny_mono ((ok.body X.A X.stack s1 H E f co (hr.deeper _)).run [] s2 [] H Q J ht) (fun v s' hq => ?_) fun e s' hq => hq)
    obtain ⟨w', H', J', rv, q⟩ := hq
    exact ⟨w', H', J'.os, J'.bare, J'.base, J'.hok, rv, q⟩
  refine wpAny_call (codeAny_mono rc fun r s' hq => ?_)
  cases r with
  | error e => exact hx pins σ H s1 e s' I1 hq
  | ok fl =>
    cases fl with
    | ret u => exact I1.after hq
    | next => exact False.elim hq
    | brk => exact False.elim hq
    | cont => exact False.elim hq
end
/-- what a def makes of such a lambda: its worth, or the word of the class that was raised -/
def spTold (P : Program) (w : World) (K : PySem.W.Frag) (mg : Str → Option Value) (base : Heap) (k : Nat) (l : List (Addr × Str)) : Sp := fun vs H Q _ => ∃ (L : LB) (f co : Addr), LBok P w K mg base k L ∧ vs = [.ref f] ∧ H f = some (LamO f L.q L.ps L.b L.sc co) ∧ H co = some (CodeO co L.q) ∧ TTm K l (fun E' H' Q' => L.t E' [] H' Q') H Q
theorem told_manyW {K : PySem.W.Frag} {W : WX} {D : Ends} {σ : L2.St} {H : Hp} {d : Option Addr} : ∀ {l : List (Addr × Str)} {cls : Value}, toldBy K (fun ret => D.rt (.str ret) H) l cls → wMany K W D (cls2 l) cls d σ H
  | [], _, h => h.elim
  | (C, ret) :: r, cls, ⟨b, e1, e2, e3⟩ => ⟨b, e1, fun hb a _ => e2 hb, fun hb => told_manyW (e3 hb)⟩
theorem told_fn {P : Program} {w : World} {K : PySem.W.Frag} {mg : Str → Option Value} {base : Heap} {x qual a : Str} {st : Stmt} {f : Addr} {fd : FuncData} {dvs : List V} {r : List Str} {k : Nat} {l : List (Addr × Str)} {h₀ : ExceptHandler} {hds : List ExceptHandler} {p1 p2 p3 p8 : Pos}
    (F : FunD K x qual (defArgs st) (defBody st) (defScope st) dvs [] f fd) (S : FnScope (a :: r) [a] (defScope st)) (hb : defBody st = [.Try [.Return (some (.Call (.Name a p1) [] [] p2)) p3] (h₀ :: hds) [] [] p8]) (hv : Vis (defScope st) a)
    (hh : ∀ (cdv : Value) (A : Around) (outer : List Env) (s : Shared) (H : Hp) (E : XK), HdsOk (cxOf (L2.CX P w) P w K mg base (a :: r) qual (defScope st) f cdv A outer s H E) (h₀ :: hds) (cls2 l))
    (hd : (a == ("__debug__" : Str)) = false := by decide) (hcd : (a == ("__classdict__" : Str)) = false := by decide) : FnOk P w K mg base (L2.CX P w) (k + 2) f fd [a] (spTold P w K mg base k l) := by
  refine F.ok S (fun vs H Q E h => ?_) fun cdv A outer s H vs Q E hr h => ?_
  · obtain ⟨L, g, co, _, rfl, _⟩ := h
    rfl
  · obtain ⟨L, g, co, ok, rfl, h1, h2, h3⟩ := h
    rw [hb]
    have tE : Takes (cxOf (L2.CX P w) P w K mg base (a :: r) qual (defScope st) f cdv A outer s H E) (fun cls d _ H => E cls d H) := takes_of rfl rfl rfl rfl
    refine ⟨_, pss_one (ps_try_many (X := cxOf (L2.CX P w) P w K mg base (a :: r) qual (defScope st) f cdv A outer s H E) (l := cls2 l) (tb := fun W D σ H => ∃ Ech : XK, (∀ cls d σ' H', Ech cls d H' → W cls d σ' H') ∧ tCallL P w K mg base k 0 Ech σ H D.rt)
      rfl rfl tE (fun W pn xe tk _ => ⟨fun pins s' σ H' D I h' => ?_⟩) (hh cdv A outer s H E)), ?_⟩
    · obtain ⟨Ech, hW, h'⟩ := h'
      exact (pss_one (ps_ret (pos := p3) (pe_callL (i := 0) rfl hv hr (passes_call tk hW) hd hcd))).run pins s' σ H' D I h'
    · exact ⟨_, fun cls d σ' H' e => told_manyW e, L, g, co, ok, rfl, h1, h2, h3⟩
section
variable {c : Ct} {Γ : List Sl} {Φ : Dt → List Sl → Prop} {te : TE} {tr : TA}
theorem w_lamO {P : Addr} {q : Str} {ps : Arguments} {b : Expr} {sc : Scope} (hP : (P, q) ∈ c.T.l) (hu : ∀ x ∈ c.T.l, x.1 = P → x.2 = q) (hg : c.T.g = []) (h : Φ (.lam q ps b sc) Γ) : Wp c (tLamO P q ps b sc) Γ Φ := fun Z M H σ R O E Q k => by
  have tb := O.tab E
  refine ⟨tb.1 _ hP, fun f co H2 gr f0 c0 h1 h2 => ?_⟩
  have E2 := E.extY (H' := H2) (O.ey ⟨gr.1, fun t => ⟨gr.2 _ hP hu t.1, fun P2 hP2 => by rw [hg] at hP2; cases hP2⟩⟩)
  refine k _ _ Γ M H2 h E2 (.lam (Fz.mkN h1 (Trk.ne E.trk f0) rfl) (Fz.mkN h2 (fun m => ?_) rfl))
  obtain ⟨o, e1, _, e2⟩ := E.trk co m
  rcases c0 with z | z
  · rw [z] at e1
    cases e1
  · rw [z] at e1
    exact e2 co q (Option.some.inj e1).symm
theorem w_toldL {P : Program} {w : World} {mg : Str → Option Value} {base : Heap} {k : Nat} {l : List (Addr × Str)} {E0 : XK} (ht : c.top)
    (h : Wa c tr Γ fun ds Γ1 => ∃ L : LB, ds = [.lam L.q L.ps L.b L.sc] ∧ LBok P w c.K mg base k L ∧ Γ1.all Sl.nd = true ∧ ∀ E, Wp ⟨c.K, c.T, [], E, fun C => toldBy c.K (fun ret => Φ (.str ret) Γ1) l (.ref C), False⟩ (L.t E) [] fun d _ => Φ d Γ1) : Wp c (tCall (spTold P w c.K mg base k l) [] E0 tr) Γ Φ := fun Z M H σ R O E Q kk =>
  h Z M H σ R O E _ fun vs ds Γ1 M1 H1 ⟨L, eds, ok, nd, hw⟩ E1 iv => by
    subst eds
    cases iv with
    | cons i1 i2 =>
      cases i2
      cases i1 with
      | lam g1 g2 =>
        rename_i f co
        have nK : ∀ {a : Addr} {q : Str} {k : List (Key × V)}, CodeO a q ≠ .dK k := fun z => by unfold CodeO at z; cases z
        have nT : ∀ {a : Addr} {q : Str} {k : List (List Key × V)}, CodeO a q ≠ .dT k := fun z => by unfold CodeO at z; cases z
        refine ⟨L, f, co, ok, rfl, Fz.id g1 (fun _ z => by unfold LamO at z; cases z) (fun _ z => by unfold LamO at z; cases z), Fz.id g2 (fun _ z => nK z) (fun _ z => nT z), ?_⟩
        have E2 : En c.K [] ⟨H1, M1, [], Z.T⟩ M1 H1 [] [] (fun _ => True) := ⟨rfl, fun i d q => (by simp at q), fun i d q => (by simp at q), fun i j a d e n q => (by simp at q), trivial, fun _ _ _ _ => trivial, fun b q => q, E1.trk, fun _ _ q _ _ => q, E1.tab, rfl, fun _ _ q => by simp at q⟩
        refine hw _ ⟨H1, M1, [], Z.T⟩ M1 H1 [] _ ⟨O.t, fun cls H' p f tb => p.mono fun ret q => ?_, False.elim⟩ E2 Q fun v d Γ' M' H' p E3 iv => ?_
        · exact kk _ _ Γ1 M1 H' q (E1.extX ⟨fun b o hb n => f b o hb (fun j => by simp) n, fun _ => tb⟩ (O.nd ht) nd) .str
        · exact kk v d Γ1 M1 H' p (E1.extY ⟨fun b o hb n => E3.pres b o hb (fun j => by simp) n, fun _ => E3.tab⟩) (iv.mono fun a u q => Fz.step q (fun _ q' _ => q') fun z => Fz.nm q (E3.sub a z))
end
end DL
/-! DL13: two names at once by a pair, slots forgotten, a lambda told at once -/
namespace DL
open PySem L2 Evl
theorem u1 {n m : Nat} (h : n + 64 < m) : n + 1 < m := Nat.lt_of_le_of_lt (Nat.add_le_add_left (by decide) _) h
/-- the same, so named that it is walked by hand -/
def tAsgN (te : TE) (g : TG) : TS := tAsg te g
theorem ps_asgN {X : Cx} {tg e : Expr} {te : TE} {g : TG} {pos : Pos} (he : PE X e te) (hg : PG X tg g) (hs : swapsWithSole [tg] e pos.line X.env = pure false := by rfl) (hw : swappedStores [tg] e X.env = pure none := by rfl)
    (h1 : (assignEach [tg] X.env).map (·.2) = [assign tg X.env] := by rfl) : PS X (.Assign [tg] e pos) (tAsgN te g) := ps_asg he hg hs hw h1
section
variable {c : Ct} {Γ : List Sl} {Φ : Dt → List Sl → Prop} {Ψ : Out → Prop} {te : TE} {ts : TS}
theorem lt_some {Γ Γ1 : List Sl} (hl : Γ1.length = Γ.length) {k : Nat} (q : (Γ[k]?).isSome = true) : k < Γ1.length := by
  rw [hl]
  cases e : Γ[k]? with
  | none => rw [e] at q; cases q
  | some x => exact (List.getElem?_eq_some_iff.mp e).1
theorem nz_of {zs : List Nat} {k : Nat} (q : zs.contains k = false) : k ∉ zs := fun m => by
  rw [List.contains_iff_mem.mpr m] at q
  cases q
/-- a, b = a new object, a constant; by a pair that is thrown away -/
theorem s_asgTN {i j : Nat} {v : V} {e : Dt} (hi : (Γ[i]?).isSome = true) (hj : (Γ[j]?).isSome = true) (hz : c.zs.contains i = false) (hz' : c.zs.contains j = false) (hv : ∀ F, Is c.K F v e) (h : Wn c te Γ fun d Γ1 => Γ1.length = Γ.length ∧ Ψ (.nx ((Γ1.set i (.ow d)).set j (.im e)))) :
    Ws c (tAsgN (tTup (tCons te (tCons (tC v) tNil))) (gTup c.K 2 (gCons (gName i) (gCons (gName j) gNil)))) Γ Ψ := fun Z M H σ R D O E G =>
  h Z M H σ R O E _ fun p d Γ1 M1 H1 ⟨hl, q⟩ E1 pM p0 pB nd ob => by
    refine ⟨by show 2 ≤ sizeLine; decide, fun a ha => ?_⟩
    have E2 : En c.K c.zs Z M1 (upd H1 a (.tup [.ref p, v])) σ Γ1 R := E1.new ha
    have ob2 : Ob c.K (Fz M1 (upd H1 a (.tup [.ref p, v]))) (upd H1 a (.tup [.ref p, v])) p d := ob.mono (ex_fz (Ex.new ha)) fun o _ z => (upd_ne (ne_of_none z ha)).trans z
    exact ⟨a, _, rfl, .inl (.inl upd_same), rfl, _, _, rfl, _, _, rfl, rfl, G.nx _ _ M1 _ q ((E2.setO pM p0 pB nd ob2 (lt_some hl hi) (nz_of hz)).set (hv _) (by rw [List.length_set]; exact lt_some hl hj) (nz_of hz'))⟩
/-- slots that are not wanted any more -/
theorem s_wipe (vs : List Nat) (hz : vs.all (fun i => !c.zs.contains i) = true) (h : Ws c ts (wipeG Γ vs) Ψ) : Ws c ts Γ Ψ := fun Z M H σ R D O E G =>
  h Z M H σ R D O (E.unwipe (fun i hi hm => by
    have q := List.all_eq_true.mp hz i hi
    rw [List.contains_iff_mem.mpr hm] at q
    cases q) rfl fun _ _ => rfl) G
end
section
variable {c : Ct} {Γ : List Sl} {Φ : Dt → List Sl → Prop} {ΦT : Bool → List Sl → Prop} {Ψ : Out → Prop} {t u : TT} {ts us : TS} {ta tb : TE}
/-- a test that comes out false -/
theorem s_ifF (h : Wt c t Γ fun b Γ1 => b = false ∧ Ws c us Γ1 Ψ) : Ws c (tIfS t ts us) Γ Ψ := s_if (Wt.mono h fun b Γ1 ⟨e, q⟩ => by subst e; exact iteF q)
theorem t_orF (h : Wt c t Γ fun b Γ1 => b = false ∧ Wt c u Γ1 ΦT) : Wt c (tOr t u) Γ ΦT := t_or (Wt.mono h fun b Γ1 ⟨e, q⟩ => by subst e; exact iteF q)
theorem t_andT (h : Wt c t Γ fun b Γ1 => b = true ∧ Wt c u Γ1 ΦT) : Wt c (tAnd t u) Γ ΦT := t_and (Wt.mono h fun b Γ1 ⟨e, q⟩ => by subst e; exact iteT q)
theorem w_orF (h : Wp c ta Γ fun d Γ1 => d = .bl false ∧ Wp c tb Γ1 Φ) : Wp c (tOrV ta tb) Γ Φ := w_orV (h.mono fun d Γ1 ⟨e, q⟩ => ⟨false, e, iteF q⟩)
theorem w_andT (h : Wp c ta Γ fun d Γ1 => d = .bl true ∧ Wp c tb Γ1 Φ) : Wp c (tAndV ta tb) Γ Φ := w_andV (h.mono fun d Γ1 ⟨e, q⟩ => ⟨true, e, iteT q⟩)
theorem dF {p : Prop} [Decidable p] {A : Prop} (h : ¬ p) (a : A) : decide p = false ∧ A := ⟨decide_eq_false h, a⟩
theorem nF {p : Prop} [Decidable p] {A : Prop} (h : p) (a : A) : (!decide p) = false ∧ A := ⟨by rw [decide_eq_true h]; rfl, a⟩
theorem dT {p : Prop} [Decidable p] {A : Prop} (h : p) (a : A) : decide p = true ∧ A := ⟨decide_eq_true h, a⟩
theorem bF {p : Prop} [Decidable p] {A : Prop} (h : ¬ p) (a : A) : Dt.bl (decide p) = .bl false ∧ A := ⟨by rw [decide_eq_false h], a⟩
theorem bT {p : Prop} [Decidable p] {A : Prop} (h : p) (a : A) : Dt.bl (decide p) = .bl true ∧ A := ⟨by rw [decide_eq_true h], a⟩
end
def rInC : R2 := rInS
def rNotInC : R2 := rNotInS
theorem op_inX {X : Cx} : OpR X (compareOp .In) rInC := op_inS
theorem op_notinX {X : Cx} : OpR X (compareOp .NotIn) rNotInC := op_notInS
theorem rd_inC {K : PySem.W.Frag} {P : Dt → Prop} {k : Nat} {s z : Str} (e : s = ⟨#[k]⟩) (h : P (.bl (decide (k ∈ TL.tl z)))) : RD K rInC (.str s) (.str z) P := fun M H v w t iv iw Q q => by
  subst e
  cases iv; cases iw
  exact ⟨k, z, rfl, rfl, q _ _ H h (Ex.refl H) .bl⟩
theorem rd_notinC {K : PySem.W.Frag} {P : Dt → Prop} {k : Nat} {s z : Str} (e : s = ⟨#[k]⟩) (h : P (.bl (!decide (k ∈ TL.tl z)))) : RD K rNotInC (.str s) (.str z) P := fun M H v w t iv iw Q q => by
  subst e
  cases iv; cases iw
  exact ⟨k, z, rfl, rfl, q _ _ H h (Ex.refl H) .bl⟩
/-- the def that tells what a lambda does: its clauses l -/
structure Tld (K : PySem.W.Frag) (mg : Str → Option Value) (x a : Str) (r : List Str) (st : Stmt) (h₀ : ExceptHandler) (hds : List ExceptHandler) (l : List (Addr × Str)) : Prop where
  S : FnScope (a :: r) [a] (defScope st)
  v : Vis (defScope st) a
  b : ∃ p1 p2 p3 p8, defBody st = [.Try [.Return (some (.Call (.Name a p1) [] [] p2)) p3] (h₀ :: hds) [] [] p8]
  h : ∀ X : Cx, X.mg = mg → X.env.scope = defScope st → HdsOk X (h₀ :: hds) (cls2 l)
  f : ∃ (g : Addr) (oc dV kV doc pm cdv ct : Value) (an od : Option Addr) (osl : Array (Option Value)), mg x = some (.ref g) ∧ PySem.W.keepIn K (.ref g) = true ∧ K.lookup g = some ⟨oc, od, .func (PySem.W.fnOf x x (defArgs st) (defBody st) (defScope st) dV kV doc pm an cdv ct), osl⟩ ∧
    PySem.W.codeIn K cdv x = true ∧ L2.Binds K (PySem.W.fnOf x x (defArgs st) (defBody st) (defScope st) dV kV doc pm an cdv ct) [a] []
theorem pe_tld {X : Cx} {x a : Str} {r : List Str} {st : Stmt} {h₀ : ExceptHandler} {hds : List ExceptHandler} {l : List (Addr × Str)} (K : PySem.W.Frag) (hK : X.K = K) (qn q : Str) (hq : X.env.qual = qn) (hqq : qn ++ "<lambda>" = q) {T : List (Addr × Str)} {c P : Addr} {k : Nat} {params : Arguments} {body : Expr} {scope : Scope} {t : XK → TE} {p lpos pos : Pos}
    (F : Tld K X.mg x a r st h₀ hds l) (hg : Gl X x) (TB : GxR.TabB X.base X.mg c P) (hcode : X.env.code = .ref c) (hmT : (P, q) ∈ T) (hu : ∀ p ∈ T, p.1 = P → p.2 = q) (hr : Room (k + 2) X.A) (L : LamX.LamS X.env.scope scope) (hdef : defaultsOf params X.env = ([], []))
    (hbind : ∀ (q : Str) (cl : List (Str × Addr)) (pm cv ctv : Value), bindArgs (PySem.W.kla_fn "<lambda>" q params body scope cl pm cv ctv) ⟨[], []⟩ = pure [])
    (hbody : ∀ (A : Around) (outer : List Env) (s : Shared) (H : Hp) (E : XK) (f c' : Addr), Room k (A.deeper (LamX.lamEnv X scope s.heap.objs.size f c')) → PE (LamX.lamCx X A outer s H E scope f c') body (t E))
    (hdb : (x == ("__debug__" : Str)) = false := by decide) (hd : (a == ("__debug__" : Str)) = false := by decide) (hcd : (a == ("__classdict__" : Str)) = false := by decide) :
    PE X (.Call (.Name x p) [.Lambda params body scope lpos] [] pos) (LamX.tLam T (TTm K l) t) := by
  subst hK hqq hq
  obtain ⟨g, oc, dV, kV, doc, pm, cdv, ct, an, od, osl, f1, f2, f3, f4, f5⟩ := F.f
  obtain ⟨p1, p2, p3, p8, eb⟩ := F.b
  refine LamX.pe_lamcall hg f1 f2 f3 f4 f5 F.S rfl F.v ?_ ⟨TB.code, TB.bm, TB.gP⟩ hcode hmT hu hr L hdef hbind hbody hdb hd hcd
  rw [eb]
  exact many_gives (fun f => rfl) fun s H => F.h _ rfl rfl
end DL
/-! DL14: from the head's facts to what callers know -/
namespace DL
open PySem PySem.Spec PyProof.Rows L2 Evl LamX
section
variable {P : Program} {w : World} {K : PySem.W.Frag} {mg : Str → Option Value} {base : Heap} {x qual : Str} {st : Stmt} {f c C : Addr} {oc dV kV doc pm cd ct : Value} {od an : Option Addr} {osl : Array (Option Value)} {fd : FuncData} {ps : List Str} {dvs : List V} {k : Nat} {sp : Sp} {m : Str}
theorem mkF (l : K.lookup f = some ⟨oc, od, .func (PySem.W.fnOf x qual (defArgs st) (defBody st) (defScope st) dV kV doc pm an cd ct), osl⟩) (hc : PySem.W.codeIn K cd qual = true) (hk : PySem.W.keepIn K (.ref f) = true) (hd : DflV K dV dvs) :
    FunD K x qual (defArgs st) (defBody st) (defScope st) dvs [] f (PySem.W.fnOf x qual (defArgs st) (defBody st) (defScope st) dV kV doc pm an cd ct) := ⟨⟨_, _, _, _, _, _, _, _, _, _, rfl, l, hc, hd, .inl rfl⟩, hk⟩
theorem mkFc (e : cd = .ref c) (l : K.lookup f = some ⟨oc, od, .func (PySem.W.fnOf x qual (defArgs st) (defBody st) (defScope st) dV kV doc pm an cd ct), osl⟩) (hc : PySem.W.codeIn K cd qual = true) (hk : PySem.W.keepIn K (.ref f) = true) (hd : DflV K dV dvs) :
    FunDc K x qual (defArgs st) (defBody st) (defScope st) dvs f (PySem.W.fnOf x qual (defArgs st) (defBody st) (defScope st) dV kV doc pm an cd ct) c := by
  subst e
  exact ⟨⟨_, _, _, _, _, _, _, _, _, rfl, l, hc, hd, .inl rfl⟩, hk⟩
theorem dfl0 (e : dV = .none) : DflV K dV [] := .inl ⟨rfl, e⟩
/-- no defaults -/
abbrev BindN (ps : List Str) (x qual : Str) (st : Stmt) : Prop := ∀ (kV doc pm : Value) (an : Option Addr) (cdv ct : Value) (us : List Value), us.length = ps.length → bindArgs (PySem.W.fnOf x qual (defArgs st) (defBody st) (defScope st) .none kV doc pm an cdv ct) ⟨us, []⟩ = pure (ps.zip us)
theorem mkFd (F : FunD K x qual (defArgs st) (defBody st) (defScope st) [] [] f fd) (G : FnOk P w K mg base (L2.CX P w) k f fd ps sp) (hm : mg x = some (.ref f)) (hb : BindN ps x qual st) : Fd P w K mg base x ps [] k sp :=
  ⟨f, fd, G, hm, F.kp, fun j hj => by
    have : j = 0 := Nat.le_zero.mp hj
    subst this
    exact ⟨[], .nil, F.bindsN hb⟩⟩
theorem mkMd (cl : Cls K C) (F : FunD K m qual (defArgs st) (defBody st) (defScope st) [] [] f fd) (G : FnOk P w K mg base (L2.CX P w) k f fd ps sp) (hm : Meth K C m f) (hb : BindN ps m qual st) : Md P w K mg base C m ps [] k sp :=
  ⟨cl, f, fd, G, hm, fun j hj => by
    have : j = 0 := Nat.le_zero.mp hj
    subst this
    exact ⟨[], .nil, F.bindsN hb⟩⟩
/-- a def's table -/
theorem mkTab {cc Pt : Addr} {vs : Array Value} {x1 : Value} {x2 : Option Addr} {x3 : Array (Option Value)} (a : PySem.W.nsIn K mainGlobals x = some (some (.ref f))) (l : K.lookup f = some ⟨oc, od, .func (PySem.W.fnOf x qual (defArgs st) (defBody st) (defScope st) dV kV doc pm an cd ct), osl⟩)
    (e1 : cd = .ref cc) (e2 : K.lookup cc = some ⟨x1, x2, .fields vs, x3⟩) (e3 : vs[11]? = some (.ref Pt)) : PySem.W.tabIn K x = some (cc, Pt) := by
  subst e1
  unfold PySem.W.tabIn
  rw [a]
  dsimp only
  rw [l]
  dsimp only
  rw [e2]
  dsimp only
  rw [e3]
end
/-- a law walked, with the tables of its defs -/
theorem walk_tab {l : PySem.W.OpenLaw} {n k : Nat} {q : Program} {loose : List Str} {XP : (Str → Option Value) → Heap → Prop} {YP : World → Heap → Prop} {d : DefRec} {K : Params → PySem.W.Frag} {CX : World → CXT} {x : Str} (hn : l.most = some n) (hs : n ≤ sizeLine)
    (h0 : d.params.defaults = []) (hr : Room k callerA) (hY : ∀ (w : World) (h : Heap), YP w h → (K w.params).In h)
    (F : ∀ (w : World) (mg : Str → Option Value) (fa : Addr) (h : Heap), YP w h → (K w.params).In h → h.Ns mainGlobals mg → (∀ (y : Str) (e : DefRec) (c P : Addr), (recsOf q).find? (fun r => r.name == y) = some e → PySem.W.tabIn (K w.params) y = some (c, P) → PySem.W.CodeHd h c P ∧ h.get? P = some { cls := .none, data := .fields #[] }) →
      mg d.name = some (.ref fa) → LawAtS l w (K w.params) (CX w) k n x mg fa h)
    (hx : ∀ (w : World) (H : Hp) (s : Shared) (e : Value) (s' : Shared), CX w [] H s (fun _ _ _ => False) e s' → False) : PySem.W.WalkO q loose XP YP l.row.toRowW d [] (fun f vs => PySem.call f vs) := by
  refine Att.attach_callB hn h0 fun w t₀ t₁ mg mb fa o pm cd doc a vs ns Gd Yh oh hdat hcod hfa hscr hnum hsz hbit hgen => ?_
  have kin := hY w _ Yh
  obtain ⟨fd, cs, sp, b1, b2, b3, b4, b5, b6⟩ := F w mg fa _ Yh kin Gd.T.g (fun y e c P g1 g2 => PySem.W.tab_of Gd.T kin g1 g2) hfa
  exact law_callTs kin Gd.T.g Gd.T.b Gd.T.builtins Gd.T.nolimit hgen b1 b2 b3 Gd.T.bmain hscr hnum (Nat.le_trans hsz hs) hr b6 b4 (fun H p1 p2 => b5 H a ns hsz hbit p1 p2) fun H e s' => hx w H t₁ e s'
theorem cx_end {P : Program} {w : World} {H : Hp} {s : Shared} {e : Value} {s' : Shared} (h : L2.CX P w [] H s (fun _ _ _ => False) e s') : False := by
  obtain ⟨_, _, _, _, _, _, _, _, _, _, _, _, z⟩ := h
  exact z
end DL
namespace TW
open PySem L2 Evl DL
local macro_rules | `(tactic| walk_at "d1") => `(tactic| with_reducible first
  | refine s_seq ?_
  | refine iteT ?_
  | refine iteF ?_
  | refine s_asg ?_
  | refine g_nm rfl rfl ?_
  | refine s_if ?_
  | refine s_ret ?_
  | refine s_next ?_
  | refine s_retN ?_
  | refine s_drop ?_
  | refine s_brk ?_
  | refine s_cont ?_
  | refine s_aug1 rfl rfl ?_
  | refine s_fldO ?_
  | refine Exists.intro _ (Exists.intro _ (Exists.intro _ (And.intro rfl (And.intro (by assumption) (And.intro (by assumption) (And.intro (by decide) ?_))))))
  | refine w_var rfl ?_
  | refine w_int ?_
  | refine w_str ?_
  | refine w_bl ?_
  | refine w_non ?_
  | refine t_cmp ?_
  | refine rd_ixO rfl rfl ?_
  | refine w_op ?_
  | refine w_un ?_
  | refine w_chain ?_
  | refine t_test ?_
  | refine t_B ?_
  | refine t_not ?_
  | refine t_and ?_
  | refine t_or ?_
  | refine w_andV ?_
  | refine w_orV ?_
  | refine w_notV ?_
  | refine w_if ?_
  | refine w_tup ?_
  | refine w_lst ?_
  | refine w_isiInt ?_
  | refine w_rev ?_
  | refine w_cb ?_
  | refine w_sl ?_
  | refine w_join ?_
  | refine t_yes ?_
  | refine w_m1 ?_
  | refine rj_find ?_
  | refine rj_count ?_
  | refine w_joined ?_
  | refine a_nil ?_
  | refine a_cons ?_
  | refine o_none ?_
  | refine o_some ?_
  | refine g_tup rfl ?_
  | refine g_setO rfl rfl ?_
  | refine gs_nil ?_
  | refine gs_cons ?_
  | refine j_nil ?_
  | refine j_cons ?_
  | refine rd_lt ?_
  | refine rd_le ?_
  | refine rd_gt ?_
  | refine rd_ge ?_
  | refine rd_sub ?_
  | refine rd_mod (by first | decide | assumption) ?_
  | refine rd_div (by first | decide | (constructor <;> omega)) ?_
  | refine rd_mulR (by decide) ?_
  | refine rd_powC (by decide) ?_
  | refine rd_addI ?_
  | refine rd_eqI ?_
  | refine rd_neI ?_
  | refine rd_eqS ?_
  | refine rd_neS ?_
  | refine rd_eqB ?_
  | refine rd_neB ?_
  | refine rd_ipa ?_
  | refine rd_ips ?_
  | refine ru_neg ?_
  | refine rx_lenT ?_
  | refine rx_lenL ?_
  | refine rx_abs ?_
  | refine rc_intI ?_
  | refine rc_intB ?_
  | refine rc_tupT ?_
  | refine rc_tupL ?_
  | refine rc_tupR ?_
  | refine rs_tup ?_
  | refine rs_lst ?_
  | refine w_fldO rfl (by assumption) (by assumption) rfl ?_
  | refine w_fldV rfl (by assumption) (by assumption) rfl ?_
  | refine w_fld ?_
  | refine Exists.intro _ (And.intro rfl ?_)
  | refine Exists.intro _ (Exists.intro _ (Exists.intro _ (Exists.intro _ (And.intro rfl (And.intro (by assumption) (And.intro (by assumption) (And.intro (by rfl) ?_)))))))
  | refine w_callI (dds := []) (fun _ => .nil) (Exists.intro _ rfl) ?_
  | refine w_callI0 (dds := []) (fun _ => .nil) (Exists.intro _ rfl) ?_
  | refine w_call (dds := []) (fun _ => .nil) ?_
  | refine w_call0 (dds := []) (fun _ => .nil) ?_
  | refine w_make (dds := []) (fun _ => .nil) ?_
  | refine w_make0 (dds := []) (fun _ => .nil) ?_
  | refine w_meth (dds := []) (fun _ => .nil) ?_
  | refine w_meth0 (dds := []) (fun _ => .nil) ?_
  | refine And.intro (small (by simp only [List.length_cons, List.length_nil]; omega)) ?_
  | refine Exists.intro _ (Exists.intro _ (And.intro rfl (And.intro (by decide) ?_)))
  | refine Or.inl (Exists.intro _ (And.intro rfl ?_))
  | refine Or.inr (Exists.intro _ (And.intro rfl ?_))
  | refine And.intro rfl ?_)
local macro_rules | `(tactic| walk_at "dl") => `(tactic| repeat (first | walk_at "d1" | (dsimp only [onx, rets, lpe, rets1, List.cons_append, List.nil_append])))

local macro_rules | `(tactic| walk_at "n1") => `(tactic| with_reducible first
  | refine s_seq ?_
  | refine iteT ?_
  | refine iteF ?_
  | refine s_asg ?_
  | refine g_nm rfl rfl ?_
  | refine s_ret ?_
  | refine s_next ?_
  | refine s_retN ?_
  | refine s_drop ?_
  | refine s_brk ?_
  | refine s_cont ?_
  | refine s_aug1 rfl rfl ?_
  | refine s_fldO ?_
  | refine Exists.intro _ (Exists.intro _ (Exists.intro _ (And.intro rfl (And.intro (by assumption) (And.intro (by assumption) (And.intro (by decide) ?_))))))
  | refine w_var rfl ?_
  | refine w_int ?_
  | refine w_str ?_
  | refine w_bl ?_
  | refine w_non ?_
  | refine t_cmp ?_
  | refine rd_ixO rfl rfl ?_
  | refine w_op ?_
  | refine w_un ?_
  | refine w_chain ?_
  | refine t_test ?_
  | refine t_B ?_
  | refine t_not ?_
  | refine t_and ?_
  | refine t_or ?_
  | refine w_andV ?_
  | refine w_orV ?_
  | refine w_notV ?_
  | refine w_tup ?_
  | refine w_lst ?_
  | refine w_isiInt ?_
  | refine w_rev ?_
  | refine w_cb ?_
  | refine w_sl ?_
  | refine w_join ?_
  | refine t_yes ?_
  | refine w_m1 ?_
  | refine rj_find ?_
  | refine rj_count ?_
  | refine w_joined ?_
  | refine a_nil ?_
  | refine a_cons ?_
  | refine o_none ?_
  | refine o_some ?_
  | refine g_tup rfl ?_
  | refine g_setO rfl rfl ?_
  | refine gs_nil ?_
  | refine gs_cons ?_
  | refine j_nil ?_
  | refine j_cons ?_
  | refine rd_lt ?_
  | refine rd_le ?_
  | refine rd_gt ?_
  | refine rd_ge ?_
  | refine rd_sub ?_
  | refine rd_mod (by first | decide | assumption) ?_
  | refine rd_div (by first | decide | (constructor <;> omega)) ?_
  | refine rd_mulR (by decide) ?_
  | refine rd_powC (by decide) ?_
  | refine rd_addI ?_
  | refine rd_eqI ?_
  | refine rd_neI ?_
  | refine rd_eqS ?_
  | refine rd_neS ?_
  | refine rd_eqB ?_
  | refine rd_neB ?_
  | refine rd_ipa ?_
  | refine rd_ips ?_
  | refine ru_neg ?_
  | refine rx_lenT ?_
  | refine rx_lenL ?_
  | refine rx_abs ?_
  | refine rc_intI ?_
  | refine rc_intB ?_
  | refine rc_tupT ?_
  | refine rc_tupL ?_
  | refine rc_tupR ?_
  | refine rs_tup ?_
  | refine rs_lst ?_
  | refine w_fldO rfl (by assumption) (by assumption) rfl ?_
  | refine w_fldV rfl (by assumption) (by assumption) rfl ?_
  | refine w_fld ?_
  | refine Exists.intro _ (And.intro rfl ?_)
  | refine Exists.intro _ (Exists.intro _ (Exists.intro _ (Exists.intro _ (And.intro rfl (And.intro (by assumption) (And.intro (by assumption) (And.intro (by rfl) ?_)))))))
  | refine w_callI (dds := []) (fun _ => .nil) (Exists.intro _ rfl) ?_
  | refine w_callI0 (dds := []) (fun _ => .nil) (Exists.intro _ rfl) ?_
  | refine w_call (dds := []) (fun _ => .nil) ?_
  | refine w_call0 (dds := []) (fun _ => .nil) ?_
  | refine w_make (dds := []) (fun _ => .nil) ?_
  | refine w_make0 (dds := []) (fun _ => .nil) ?_
  | refine w_meth (dds := []) (fun _ => .nil) ?_
  | refine w_meth0 (dds := []) (fun _ => .nil) ?_
  | refine And.intro (small (by simp only [List.length_cons, List.length_nil]; omega)) ?_
  | refine Exists.intro _ (Exists.intro _ (And.intro rfl (And.intro (by decide) ?_)))
  | refine Or.inl (Exists.intro _ (And.intro rfl ?_))
  | refine Or.inr (Exists.intro _ (And.intro rfl ?_))
  | refine And.intro rfl ?_)
local macro_rules | `(tactic| walk_at "nl") => `(tactic| repeat (first | walk_at "n1" | (dsimp only [onx, rets, lpe, rets1, List.cons_append, List.nil_append])))

def top (i : Nat) : Stmt := PySem.Challenge.pw_turingwright_k01_tapes_and_heads.main.body.getD i (.Pass ⟨0, 0, 0, 0⟩)
structure Tx (K : PySem.W.Frag) (mg : Str → Option Value) : Prop where
  len : mg "len" = none
  abs : mg "abs" = none
  int : mg "int" = none
  str : mg "str" = none
  tuple : mg "tuple" = none
  isinstance : mg "isinstance" = none
  range : mg "range" = none
  any : mg "any" = none
/-- without noughts at the end -/
def trim (ns : List Int) : List Int := (ns.reverse.dropWhile (· == 0)).reverse
theorem trim_nil : trim [] = [] := rfl
theorem trim_zero (ns : List Int) : trim (ns ++ [0]) = trim ns := by simp [trim]
theorem trim_nz (ns : List Int) {x : Int} (h : x ≠ 0) : trim (ns ++ [x]) = ns ++ [x] := by simp [trim, h]
theorem trim_len (ns : List Int) : (trim ns).length ≤ ns.length := by
  unfold trim
  rw [List.length_reverse]
  have h := (List.dropWhile_sublist (fun x : Int => x == 0) (l := ns.reverse)).length_le
  rw [List.length_reverse] at h
  exact h
theorem take_snoc (ns : List Int) {k : Nat} {x : Int} (h : ns[k]? = some x) : ns.take (k + 1) = ns.take k ++ [x] := by
  obtain ⟨h1, h2⟩ := List.getElem?_eq_some_iff.mp h
  rw [List.take_succ_eq_append_getElem h1, h2]
def dI (ns : List Int) : List Dt := ns.map Dt.int
theorem dI_len (ns : List Int) : (dI ns).length = ns.length := List.length_map _
theorem dI_get {ns : List Int} {k : Nat} {x : Int} (h : ns[k]? = some x) : (dI ns)[k]? = some (.int x) := by
  unfold dI
  rw [List.getElem?_map, h]
  rfl
theorem dI_cut (ns : List Int) (lo hi : Option Int) : cut (dI ns) lo hi = dI (cut ns lo hi) := by
  unfold dI cut
  rw [List.length_map, List.map_take, List.map_drop]
theorem dI_app (xs ys : List Int) : dI xs ++ dI ys = dI (xs ++ ys) := (List.map_append).symm
theorem dI_rev (xs : List Int) : (dI xs).reverse = dI xs.reverse := by unfold dI; rw [List.map_reverse]
theorem cut_to {α : Type} (ns : List α) (k : Nat) : cut ns none (some (k : Int)) = ns.take k := by
  unfold cut
  rw [HT.sIx_none, HT.sIx_nat, List.drop_zero, Nat.sub_zero]
  by_cases h : k ≤ ns.length
  · rw [Nat.min_eq_left h]
  · rw [Nat.min_eq_right (by omega), List.take_of_length_le (Nat.le_refl _), List.take_of_length_le (by omega)]
theorem cut_from {α : Type} (ns : List α) (k : Nat) : cut ns (some (k : Int)) none = ns.drop k := by
  unfold cut
  rw [HT.sIx_none, HT.sIx_nat]
  by_cases h : k ≤ ns.length
  · rw [Nat.min_eq_left h, List.take_of_length_le (by rw [List.length_drop]; omega)]
  · rw [Nat.min_eq_right (by omega), List.drop_of_length_le (Nat.le_refl _), List.drop_of_length_le (by omega), List.take_nil]
/-- a row of ints, a list or a tuple -/
def Row (d : Dt) (ns : List Int) : Prop := ns.length ≤ 10000 ∧ Sq d (dI ns)
def pm_trimmed : Pm := fun ds Φ _ => ∃ d ns, ds = [d] ∧ Row d ns ∧ Φ (.tup (dI (trim ns)))
def pm_first_of : Pm := fun ds Φ _ => ∃ d ns, ds = [d] ∧ Row d ns ∧ Φ (.int (ns.headD 0))
section
variable {P : Program} {w : World} {K : PySem.W.Frag} {Tb : TbT} {mg : Str → Option Value} {base : Heap}
abbrev s_first_of : Stmt := top 15
abbrev N_first_of : List Str := ["row"]
abbrev P_first_of : List Str := ["row"]
theorem sc_first_of : FnScope N_first_of P_first_of (defScope s_first_of) := ⟨rfl, rfl, rfl, by decide +kernel, rfl, by decide +kernel, by decide +kernel⟩
theorem ok_first_of {f : Addr} {fd : FuncData} {dvs : List V} (T : Tx K mg) (F : FunD K "first_of" "first_of" (defArgs s_first_of) (defBody s_first_of) (defScope s_first_of) dvs [] f fd) : FnOk P w K mg base (L2.CX P w) 1 f fd P_first_of (spD K Tb pm_first_of) := by
  refine fnd_D F sc_first_of (fun ds Φ Ψ h => by obtain ⟨d, ns, rfl, _⟩ := h; rfl) fun cdv A outer s H E hr => ?_
  have tE : Takes (cxOf (L2.CX P w) P w K mg base N_first_of "first_of" (defScope s_first_of) f cdv A outer s H E) (fun cls d _ H => E cls d H) := takes_of rfl rfl rfl rfl
  have pE : Passes (L2.CX P w) (cxOf (L2.CX P w) P w K mg base N_first_of "first_of" (defScope s_first_of) f cdv A outer s H E) E := passes_call tE fun _ _ _ _ h => h
  refine ⟨_, (pss_cons (ps_if (pt_cmpR (op_eqK K rfl hr.units) (pe_callB (call_lenK K rfl) (by rfl) T.len (by decide +kernel) (pa_cons (pv 0) pa_nil)) pe_int (nomark _)) (pss_one (ps_ret pe_int)) pss_nil)
      (pss_one (ps_ret (pe_ix (ix_seqK K rfl) (pv 0) pe_int (fun _ _ => rfl))))), ?_⟩
  try simp only [cxOf_K]
  intro ds Φ Ψ h
  obtain ⟨d, ns, rfl, ⟨hl, sq⟩, p⟩ := h
  walk_at "dl"
  refine rx_lenQ sq ?_
  walk_at "dl"
  rw [dI_len]
  refine ite_dec (fun h => ?_) fun h => ?_
  · walk_at "dl"
    have e : ns = [] := List.eq_nil_of_length_eq_zero (by omega)
    subst e
    exact p
  · walk_at "dl"
    cases ns with
    | nil => exact (h rfl).elim
    | cons x r => exact rd_ixQ sq (atI_nat (j := 0) rfl) p
abbrev s_trimmed : Stmt := top 14
abbrev N_trimmed : List Str := ["row", "end"]
abbrev P_trimmed : List Str := ["row"]
theorem sc_trimmed : FnScope N_trimmed P_trimmed (defScope s_trimmed) := ⟨rfl, rfl, rfl, by decide +kernel, rfl, by decide +kernel, by decide +kernel⟩
theorem ok_trimmed {f : Addr} {fd : FuncData} {dvs : List V} (T : Tx K mg) (F : FunD K "trimmed" "trimmed" (defArgs s_trimmed) (defBody s_trimmed) (defScope s_trimmed) dvs [] f fd) : FnOk P w K mg base (L2.CX P w) 1 f fd P_trimmed (spD K Tb pm_trimmed) := by
  refine fnd_D F sc_trimmed (fun ds Φ Ψ h => by obtain ⟨d, ns, rfl, _⟩ := h; rfl) fun cdv A outer s H E hr => ?_
  have tE : Takes (cxOf (L2.CX P w) P w K mg base N_trimmed "trimmed" (defScope s_trimmed) f cdv A outer s H E) (fun cls d _ H => E cls d H) := takes_of rfl rfl rfl rfl
  have pE : Passes (L2.CX P w) (cxOf (L2.CX P w) P w K mg base N_trimmed "trimmed" (defScope s_trimmed) f cdv A outer s H E) E := passes_call tE fun _ _ _ _ h => h
  refine ⟨_, (pss_cons (ps_set (i := 1) sc_trimmed.nd rfl (by first | exact Or.inl rfl | exact Or.inr rfl) (pe_callB (call_lenK K rfl) (by rfl) T.len (by decide +kernel) (pa_cons (pv 0) pa_nil)))
      (pss_cons (ps_while (passes_of rfl) (PW.pt (pw_and (pt_cmpR op_gtX (pv 1) pe_int (nomark _)) (pw_and1 (pt_cmpR (op_eqK K rfl hr.units) (pe_ix (ix_seqK K rfl) (pv 0) (pe_op op_subX (pv 1) pe_int) (fun _ _ => rfl)) pe_int (nomark _))))) (pss_one (ps_aug (i := 1) sc_trimmed.nd rfl (by first | exact Or.inl rfl | exact Or.inr rfl) pe_int ip_subX)))
      (pss_one (ps_ret (pe_callTy (call_tupK K rfl) (by rfl) T.tuple (by decide +kernel) (pa_cons (pe_slice (sl_K K rfl) (pv 0) po_none (po_some (pv 1))) pa_nil)))))), ?_⟩
  try simp only [cxOf_K]
  intro ds Φ Ψ h
  obtain ⟨d, ns, rfl, ⟨hl, sq⟩, p⟩ := h
  walk_at "dl"
  refine rx_lenQ sq ?_
  walk_at "dl"
  refine s_while (fun m Γ' => Γ' = [.im d, .im (.int (m : Int))] ∧ m ≤ ns.length ∧ trim (ns.take m) = trim ns) ns.length ⟨by rw [dI_len]; rfl, Nat.le_refl _, by rw [List.take_length]⟩ ?_
  rintro m Γ' ⟨rfl, hm, ht⟩
  have fin : ∀ {Γ2 : List Sl}, Γ2 = [.im d, .im (.int (m : Int))] → trim (ns.take m) = ns.take m → Ws ⟨K, Tb, [], E, Ψ, False⟩ (tRet (tCB (rTup K) (tCons (tSl (rSlX K) (tVar 0) tNoPart (tPart (tVar 1))) tNil))) Γ2 (rets Φ) := by
    rintro Γ2 rfl e
    walk_at "dl"
    refine rs_Q sq fun d' s' => ?_
    walk_at "dl"
    refine rc_tupQ s' ?_
    walk_at "dl"
    rw [dI_cut, cut_to]
    rw [← ht, e] at p
    exact p
  walk_at "dl"
  refine ite_dec (fun h => ?_) fun h => ?_
  · walk_at "dl"
    obtain ⟨k, rfl⟩ : ∃ k, m = k + 1 := ⟨m - 1, by omega⟩
    have hk : k < ns.length := by omega
    have ek : ns[k]? = some ns[k] := by simp [hk]
    refine rd_ixQ sq (e := .int ns[k]) (by rw [show ((k + 1 : Nat) : Int) - 1 = (k : Int) by omega]; exact atI_nat (dI_get ek)) ?_
    walk_at "dl"
    refine ite_dec (fun h0 => ?_) fun h0 => ?_
    · walk_at "dl"
      refine ⟨k, by omega, ?_, by omega, ?_⟩
      · show [Sl.im d, Sl.im (Dt.int (((k + 1 : Nat) : Int) - 1))] = _
        rw [show ((k + 1 : Nat) : Int) - 1 = (k : Int) by omega]
      · rw [take_snoc ns ek, h0, trim_zero] at ht
        exact ht
    · exact fin rfl (by rw [take_snoc ns ek, trim_nz _ h0])
  · have e : m = 0 := by omega
    subst e
    exact iteF (fin rfl rfl)
end
end TW
namespace TW
open PySem L2 Evl DL
local macro_rules | `(tactic| walk_at "d1") => `(tactic| with_reducible first
  | refine s_seq ?_
  | refine iteT ?_
  | refine iteF ?_
  | refine s_asg ?_
  | refine g_nm rfl rfl ?_
  | refine s_if ?_
  | refine s_ret ?_
  | refine s_next ?_
  | refine s_retN ?_
  | refine s_drop ?_
  | refine s_brk ?_
  | refine s_cont ?_
  | refine s_aug1 rfl rfl ?_
  | refine s_fldO ?_
  | refine Exists.intro _ (Exists.intro _ (Exists.intro _ (And.intro rfl (And.intro (by assumption) (And.intro (by assumption) (And.intro (by decide) ?_))))))
  | refine w_var rfl ?_
  | refine w_int ?_
  | refine w_str ?_
  | refine w_bl ?_
  | refine w_non ?_
  | refine t_cmp ?_
  | refine rd_ixO rfl rfl ?_
  | refine w_op ?_
  | refine w_un ?_
  | refine w_chain ?_
  | refine t_test ?_
  | refine t_B ?_
  | refine t_not ?_
  | refine t_and ?_
  | refine t_or ?_
  | refine w_andV ?_
  | refine w_orV ?_
  | refine w_notV ?_
  | refine w_if ?_
  | refine w_tup ?_
  | refine w_lst ?_
  | refine w_isiInt ?_
  | refine w_rev ?_
  | refine w_cb ?_
  | refine w_sl ?_
  | refine w_join ?_
  | refine t_yes ?_
  | refine w_m1 ?_
  | refine rj_find ?_
  | refine rj_count ?_
  | refine w_joined ?_
  | refine a_nil ?_
  | refine a_cons ?_
  | refine o_none ?_
  | refine o_some ?_
  | refine g_tup rfl ?_
  | refine g_setO rfl rfl ?_
  | refine gs_nil ?_
  | refine gs_cons ?_
  | refine j_nil ?_
  | refine j_cons ?_
  | refine rd_lt ?_
  | refine rd_le ?_
  | refine rd_gt ?_
  | refine rd_ge ?_
  | refine rd_sub ?_
  | refine rd_mod (by first | decide | assumption) ?_
  | refine rd_div (by first | decide | (constructor <;> omega)) ?_
  | refine rd_mulR (by decide) ?_
  | refine rd_powC (by decide) ?_
  | refine rd_addI ?_
  | refine rd_eqI ?_
  | refine rd_neI ?_
  | refine rd_eqS ?_
  | refine rd_neS ?_
  | refine rd_eqB ?_
  | refine rd_neB ?_
  | refine rd_ipa ?_
  | refine rd_ips ?_
  | refine ru_neg ?_
  | refine rx_lenT ?_
  | refine rx_lenL ?_
  | refine rx_abs ?_
  | refine rc_intI ?_
  | refine rc_intB ?_
  | refine rc_tupT ?_
  | refine rc_tupL ?_
  | refine rc_tupR ?_
  | refine rs_tup ?_
  | refine rs_lst ?_
  | refine w_fldO rfl (by assumption) (by assumption) rfl ?_
  | refine w_fldV rfl (by assumption) (by assumption) rfl ?_
  | refine w_fld ?_
  | refine Exists.intro _ (And.intro rfl ?_)
  | refine Exists.intro _ (Exists.intro _ (Exists.intro _ (Exists.intro _ (And.intro rfl (And.intro (by assumption) (And.intro (by assumption) (And.intro (by rfl) ?_)))))))
  | refine w_callI (dds := []) (fun _ => .nil) (Exists.intro _ rfl) ?_
  | refine w_callI0 (dds := []) (fun _ => .nil) (Exists.intro _ rfl) ?_
  | refine w_call (dds := []) (fun _ => .nil) ?_
  | refine w_call0 (dds := []) (fun _ => .nil) ?_
  | refine w_make (dds := []) (fun _ => .nil) ?_
  | refine w_make0 (dds := []) (fun _ => .nil) ?_
  | refine w_meth (dds := []) (fun _ => .nil) ?_
  | refine w_meth0 (dds := []) (fun _ => .nil) ?_
  | refine And.intro (small (by simp only [List.length_cons, List.length_nil]; omega)) ?_
  | refine Exists.intro _ (Exists.intro _ (And.intro rfl (And.intro (by decide) ?_)))
  | refine Or.inl (Exists.intro _ (And.intro rfl ?_))
  | refine Or.inr (Exists.intro _ (And.intro rfl ?_))
  | refine And.intro rfl ?_)
local macro_rules | `(tactic| walk_at "dl") => `(tactic| repeat (first | walk_at "d1" | (dsimp only [onx, rets, lpe, rets1, List.cons_append, List.nil_append])))

local macro_rules | `(tactic| walk_at "n1") => `(tactic| with_reducible first
  | refine s_seq ?_
  | refine iteT ?_
  | refine iteF ?_
  | refine s_asg ?_
  | refine g_nm rfl rfl ?_
  | refine s_ret ?_
  | refine s_next ?_
  | refine s_retN ?_
  | refine s_drop ?_
  | refine s_brk ?_
  | refine s_cont ?_
  | refine s_aug1 rfl rfl ?_
  | refine s_fldO ?_
  | refine Exists.intro _ (Exists.intro _ (Exists.intro _ (And.intro rfl (And.intro (by assumption) (And.intro (by assumption) (And.intro (by decide) ?_))))))
  | refine w_var rfl ?_
  | refine w_int ?_
  | refine w_str ?_
  | refine w_bl ?_
  | refine w_non ?_
  | refine t_cmp ?_
  | refine rd_ixO rfl rfl ?_
  | refine w_op ?_
  | refine w_un ?_
  | refine w_chain ?_
  | refine t_test ?_
  | refine t_B ?_
  | refine t_not ?_
  | refine t_and ?_
  | refine t_or ?_
  | refine w_andV ?_
  | refine w_orV ?_
  | refine w_notV ?_
  | refine w_tup ?_
  | refine w_lst ?_
  | refine w_isiInt ?_
  | refine w_rev ?_
  | refine w_cb ?_
  | refine w_sl ?_
  | refine w_join ?_
  | refine t_yes ?_
  | refine w_m1 ?_
  | refine rj_find ?_
  | refine rj_count ?_
  | refine w_joined ?_
  | refine a_nil ?_
  | refine a_cons ?_
  | refine o_none ?_
  | refine o_some ?_
  | refine g_tup rfl ?_
  | refine g_setO rfl rfl ?_
  | refine gs_nil ?_
  | refine gs_cons ?_
  | refine j_nil ?_
  | refine j_cons ?_
  | refine rd_lt ?_
  | refine rd_le ?_
  | refine rd_gt ?_
  | refine rd_ge ?_
  | refine rd_sub ?_
  | refine rd_mod (by first | decide | assumption) ?_
  | refine rd_div (by first | decide | (constructor <;> omega)) ?_
  | refine rd_mulR (by decide) ?_
  | refine rd_powC (by decide) ?_
  | refine rd_addI ?_
  | refine rd_eqI ?_
  | refine rd_neI ?_
  | refine rd_eqS ?_
  | refine rd_neS ?_
  | refine rd_eqB ?_
  | refine rd_neB ?_
  | refine rd_ipa ?_
  | refine rd_ips ?_
  | refine ru_neg ?_
  | refine rx_lenT ?_
  | refine rx_lenL ?_
  | refine rx_abs ?_
  | refine rc_intI ?_
  | refine rc_intB ?_
  | refine rc_tupT ?_
  | refine rc_tupL ?_
  | refine rc_tupR ?_
  | refine rs_tup ?_
  | refine rs_lst ?_
  | refine w_fldO rfl (by assumption) (by assumption) rfl ?_
  | refine w_fldV rfl (by assumption) (by assumption) rfl ?_
  | refine w_fld ?_
  | refine Exists.intro _ (And.intro rfl ?_)
  | refine Exists.intro _ (Exists.intro _ (Exists.intro _ (Exists.intro _ (And.intro rfl (And.intro (by assumption) (And.intro (by assumption) (And.intro (by rfl) ?_)))))))
  | refine w_callI (dds := []) (fun _ => .nil) (Exists.intro _ rfl) ?_
  | refine w_callI0 (dds := []) (fun _ => .nil) (Exists.intro _ rfl) ?_
  | refine w_call (dds := []) (fun _ => .nil) ?_
  | refine w_call0 (dds := []) (fun _ => .nil) ?_
  | refine w_make (dds := []) (fun _ => .nil) ?_
  | refine w_make0 (dds := []) (fun _ => .nil) ?_
  | refine w_meth (dds := []) (fun _ => .nil) ?_
  | refine w_meth0 (dds := []) (fun _ => .nil) ?_
  | refine And.intro (small (by simp only [List.length_cons, List.length_nil]; omega)) ?_
  | refine Exists.intro _ (Exists.intro _ (And.intro rfl (And.intro (by decide) ?_)))
  | refine Or.inl (Exists.intro _ (And.intro rfl ?_))
  | refine Or.inr (Exists.intro _ (And.intro rfl ?_))
  | refine And.intro rfl ?_)
local macro_rules | `(tactic| walk_at "nl") => `(tactic| repeat (first | walk_at "n1" | (dsimp only [onx, rets, lpe, rets1, List.cons_append, List.nil_append])))

/-- what a tape is, by data -/
abbrev mkT (C : Addr) (l : List Int) (h : Int) (r : List Int) : Dt := .ins C ["left", "here", "right"] [.tup (dI l), .int h, .tup (dI r)]
structure Tp where
  l : List Int
  h : Int
  r : List Int
abbrev Tp.d (C : Addr) (t : Tp) : Dt := mkT C t.l t.h t.r
/-- signs that may stand -/
def Nn (xs : List Int) : Prop := ∀ x ∈ xs, 0 ≤ x
/-- a tape's sides are not too long -/
def Tp.ok (t : Tp) : Prop := t.l.length ≤ 5000 ∧ t.r.length ≤ 5000
/-- a tape of rows -/
def Tp.mk' (l : List Int) (h : Int) (r : List Int) : Tp := ⟨trim l, h, trim r⟩
structure TC (K : PySem.W.Frag) (C : Addr) : Prop where
  cl : Cls K C
  l : NoAttr K C "left"
  h : NoAttr K C "here"
  r : NoAttr K C "right"
def Row5 (d : Dt) (ns : List Int) : Prop := ns.length ≤ 5000 ∧ Sq d (dI ns)
theorem Row5.row {d : Dt} {ns : List Int} (h : Row5 d ns) : Row d ns := ⟨Nat.le_trans h.1 (by decide), h.2⟩
def pm_Tape_init (C X : Addr) : PmI := fun d0 ds A B => d0 = .ins C [] [] ∧ ∃ dl dr l h r, ds = [dl, .int h, dr] ∧ Row5 dl l ∧ Row5 dr r ∧ (Nn (trim l ++ [h] ++ trim r) → A .non (mkT C (trim l) h (trim r))) ∧ (¬ Nn (trim l ++ [h] ++ trim r) → B X)
theorem trim_idem (ns : List Int) : trim (trim ns) = trim ns := by
  unfold trim
  rw [List.reverse_reverse]
  congr 1
  generalize ns.reverse = m
  induction m with
  | nil => rfl
  | cons x r ih =>
    rw [List.dropWhile_cons]
    split
    · exact ih
    · rename_i h
      rw [List.dropWhile_cons, if_neg h]
theorem trim_mem {ns : List Int} {x : Int} (h : x ∈ trim ns) : x ∈ ns := by
  unfold trim at h
  exact List.mem_reverse.mp ((List.dropWhile_sublist _).mem (List.mem_reverse.mp h))
theorem cut_le {α : Type} (ns : List α) (lo hi : Option Int) : (cut ns lo hi).length ≤ ns.length := by
  unfold cut
  rw [List.length_take, List.length_drop]
  omega
theorem cut_mid {α : Type} (ns : List α) (i j : Nat) : cut ns (some (i : Int)) (some (j : Int)) = (ns.drop i).take (j - i) := by
  unfold cut
  rw [HT.sIx_nat, HT.sIx_nat]
  apply List.ext_getElem?
  intro m
  simp only [List.getElem?_take, List.getElem?_drop]
  by_cases h1 : i ≤ ns.length
  · rw [Nat.min_eq_left h1]
    by_cases h2 : i + m < ns.length
    · by_cases h3 : m < j - i
      · rw [if_pos h3, if_pos (by omega)]
      · rw [if_neg h3, if_neg (by omega)]
    · rw [List.getElem?_eq_none (by omega)]
      split <;> split <;> rfl
  · rw [List.getElem?_eq_none (i := min i ns.length + m) (by omega), List.getElem?_eq_none (i := i + m) (by omega)]
    split <;> split <;> rfl
theorem cut_one {α : Type} (ns : List α) {k : Nat} (h : 0 < k) : cut ns (some ((k - 1 : Nat) : Int)) (some (k : Int)) = (ns.drop (k - 1)).take 1 := by
  rw [cut_mid, show k - (k - 1) = 1 by omega]
theorem at_head (ns : List Int) (k : Nat) : (ns[k]?).getD 0 = ((ns.drop k).take 1).headD 0 := by
  have e : ns[k]? = (ns.drop k)[0]? := by rw [List.getElem?_drop]; rfl
  rw [e]
  cases ns.drop k <;> rfl
theorem dI_at {ns : List Int} {i : Nat} {d : Dt} (ed : (dI ns)[i]? = some d) : ∃ x, ns[i]? = some x ∧ d = .int x := by
  unfold dI at ed
  rw [List.getElem?_map] at ed
  cases e : ns[i]? with
  | none => rw [e] at ed; cases ed
  | some x => rw [e] at ed; exact ⟨x, rfl, (Option.some.inj ed).symm⟩
/-- a good tape -/
structure Tp.G (t : Tp) : Prop where
  l : trim t.l = t.l
  r : trim t.r = t.r
  n : Nn (t.l ++ [t.h] ++ t.r)
theorem Tp.G.nl {t : Tp} (g : t.G) : Nn t.l := fun x h => g.n x (by simp [h])
theorem Tp.G.nh {t : Tp} (g : t.G) : 0 ≤ t.h := g.n _ (by simp)
theorem Tp.G.nr {t : Tp} (g : t.G) : Nn t.r := fun x h => g.n x (by simp [h])
theorem nn_mk {l r : List Int} {h : Int} (a : Nn l) (b : 0 ≤ h) (c : Nn r) : Nn (trim l ++ [h] ++ trim r) := fun x m => by
  simp only [List.mem_append, List.mem_singleton] at m
  rcases m with (m | m) | m
  · exact a x (trim_mem m)
  · rw [m]; exact b
  · exact c x (trim_mem m)
theorem Tp.g_mk {l r : List Int} {h : Int} (a : Nn l) (b : 0 ≤ h) (c : Nn r) : (Tp.mk' l h r).G := ⟨trim_idem l, trim_idem r, nn_mk a b c⟩
theorem nn_cons {l : List Int} {h : Int} (b : 0 ≤ h) (a : Nn l) : Nn (h :: l) := fun x m => by
  rcases List.mem_cons.mp m with e | e
  · rw [e]; exact b
  · exact a x e
theorem nn_drop {l : List Int} (n : Nat) (a : Nn l) : Nn (l.drop n) := fun x m => a x (List.mem_of_mem_drop m)
theorem nn_head {l : List Int} (a : Nn l) : 0 ≤ l.headD 0 := by
  cases l with
  | nil => exact Int.le_refl _
  | cons x r => exact a x (by simp)
def Tp.wr (t : Tp) (s : Int) : Tp := ⟨t.l, s, t.r⟩
def Tp.mv (t : Tp) (w : Int) : Tp := if w = 0 then t else if w = 1 then Tp.mk' (t.h :: t.l) (t.r.headD 0) (t.r.drop 1) else Tp.mk' (t.l.drop 1) (t.l.headD 0) (t.h :: t.r)
def Tp.at (t : Tp) (p : Int) : Int := if p = 0 then t.h else ((if 0 < p then t.r else t.l)[p.natAbs - 1]?).getD 0
def Tp.word (t : Tp) : List Int := t.l.reverse ++ [t.h] ++ t.r
def Tp.ones (t : Tp) : Nat := (t.word.filter fun x => x ≠ 0).length
def Tp.turn (t : Tp) : Tp := ⟨t.r, t.h, t.l⟩
theorem Tp.G.wr {t : Tp} (g : t.G) {s : Int} (h : 0 ≤ s) : (t.wr s).G := ⟨g.l, g.r, fun x m => by
  simp only [Tp.wr, List.mem_append, List.mem_singleton] at m
  rcases m with (m | m) | m
  · exact g.nl x m
  · rw [m]; exact h
  · exact g.nr x m⟩
theorem Tp.G.mv {t : Tp} (g : t.G) (w : Int) : (t.mv w).G := by
  unfold Tp.mv
  split
  · exact g
  · split
    · exact Tp.g_mk (nn_cons g.nh g.nl) (nn_head g.nr) (nn_drop 1 g.nr)
    · exact Tp.g_mk (nn_drop 1 g.nl) (nn_head g.nl) (nn_cons g.nh g.nr)
theorem Tp.G.turn {t : Tp} (g : t.G) : t.turn.G := ⟨g.r, g.l, fun x m => by
  simp only [Tp.turn, List.mem_append, List.mem_singleton] at m
  rcases m with (m | m) | m
  · exact g.nr x m
  · rw [m]; exact g.nh
  · exact g.nl x m⟩
theorem Tp.mk_G {t : Tp} (g : t.G) : Tp.mk' t.l t.h t.r = t := by unfold Tp.mk'; rw [g.l, g.r]
section
variable {P : Program} {w : World} {K : PySem.W.Frag} {Tb : TbT} {mg : Str → Option Value} {base : Heap}
abbrev s_Tape_init : Stmt := inClass (top 13) 0
abbrev N_Tape_init : List Str := ["self", "left", "here", "right", "sign"]
abbrev P_Tape_init : List Str := ["self", "left", "here", "right"]
theorem sc_Tape_init : FnScope N_Tape_init P_Tape_init (defScope s_Tape_init) := ⟨rfl, rfl, rfl, by decide +kernel, rfl, by decide +kernel, by decide +kernel⟩
theorem ok_Tape_init {f : Addr} {fd : FuncData} {dvs : List V} {C X : Addr} (T : Tx K mg) (c : TC K C) (Xc_BadTape : Xc K mg "BadTape" X) (Fd_trimmed : Fd P w K mg base "trimmed" P_trimmed [] 1 (spD K Tb pm_trimmed)) (F : FunD K "__init__" "Tape.__init__" (defArgs s_Tape_init) (defBody s_Tape_init) (defScope s_Tape_init) dvs [] f fd) : FnOk P w K mg base (L2.CX P w) 2 f fd P_Tape_init (spI K Tb (pm_Tape_init C X)) := by
  refine fnd_I F sc_Tape_init (fun d0 ds Φ Ψ h => by obtain ⟨_, dl, dr, l, h, r, rfl, _⟩ := h; rfl) (by decide) fun cdv A outer s H E hr => ?_
  have tE : Takes (cxOf (L2.CX P w) P w K mg base N_Tape_init "Tape.__init__" (defScope s_Tape_init) f cdv A outer s H E) (fun cls d _ H => E cls d H) := takes_of rfl rfl rfl rfl
  have pE : Passes (L2.CX P w) (cxOf (L2.CX P w) P w K mg base N_Tape_init "Tape.__init__" (defScope s_Tape_init) f cdv A outer s H E) E := passes_call tE fun _ _ _ _ h => h
  refine ⟨_, (pss_cons (ps_fld (pv 0) (pe_fn 0 Fd_trimmed (by first | decide | simp) (hr.mono (by decide)) (by rfl) pE (pa_cons (pv 1) pa_nil)) rfl)
      (pss_cons (ps_fld (pv 0) (pv 2) rfl)
      (pss_cons (ps_fld (pv 0) (pe_fn 0 Fd_trimmed (by first | decide | simp) (hr.mono (by decide)) (by rfl) pE (pa_cons (pv 3) pa_nil)) rfl)
      (pss_one (ps_for (passes_of rfl) rfl (pi_or (pi_tupK K rfl (pe_op (op_addK K rfl) (pe_op (op_addK K rfl) (pe_fldK K rfl (pv 0) rfl) (pe_tup (pa_cons (pv 2) pa_nil))) (pe_fldK K rfl (pv 0) rfl))) (pi_listK K rfl (pe_op (op_addK K rfl) (pe_op (op_addK K rfl) (pe_fldK K rfl (pv 0) rfl) (pe_tup (pa_cons (pv 2) pa_nil))) (pe_fldK K rfl (pv 0) rfl)))) (pg_name (i := 4) sc_Tape_init.nd rfl (by first | exact Or.inl rfl | exact Or.inr rfl)) (pss_one (ps_if (PW.pt (pw_or (pt_not (pt_val (pe_callB (call_isiK' K rfl) (by rfl) T.isinstance (by decide +kernel) (pa_cons (pv 4) (pa_cons (pe_bltn (v := .ty "int") (by rfl) T.int (by decide +kernel) rfl) pa_nil))))) (pw_or1 (pt_cmpR op_ltX (pv 4) pe_int (nomark _))))) (pss_one (ps_rz Xc_BadTape rfl tE (by rfl))) pss_nil))))))), ?_⟩
  try simp only [cxOf_K]
  rintro d0 ds A B ⟨rfl, dl, dr, l, h, r, rfl, rl, rr, q, qx⟩
  obtain ⟨ccl, cll, clh, clr⟩ := c
  walk_at "dl"
  refine ⟨_, _, rfl, rl.row, ?_⟩
  walk_at "dl"
  refine ⟨_, _, rfl, rr.row, ?_⟩
  walk_at "dl"
  have hl1 := Nat.le_trans (trim_len l) rl.1
  have hl2 := Nat.le_trans (trim_len r) rr.1
  generalize trim l = tl at *
  generalize trim r = tr at *
  have hl3 : (dI tl).length ≤ 5000 := by rw [dI_len]; exact hl1
  have hl4 : (dI tr).length ≤ 5000 := by rw [dI_len]; exact hl2
  refine s_for (ix_l (i_tup ?_))
  walk_at "dl"
  refine rd_addT (small (by simp only [List.length_cons, List.length_nil]; omega)) ?_
  walk_at "dl"
  refine rd_addT (small (by simp only [List.length_append, List.length_cons, List.length_nil]; omega)) ?_
  refine ⟨_, rfl, ?_⟩
  rw [show dI tl ++ [Dt.int h] ++ dI tr = dI (tl ++ [h] ++ tr) by unfold dI; simp]
  generalize tl ++ [h] ++ tr = xs at *
  refine ⟨fun i Γ' => (∃ s4, Γ' = [.ow (mkT C tl h tr), .im dl, .im (.int h), .im dr, s4]) ∧ ∀ j, j < i → ∀ x, xs[j]? = some x → 0 ≤ x, ⟨⟨_, rfl⟩, fun j hj => absurd hj (Nat.not_lt_zero _)⟩, ?_, ?_⟩
  · rintro i d Γ' ed ⟨⟨s4, rfl⟩, hp⟩
    obtain ⟨x, ex, rfl⟩ := dI_at ed
    walk_at "dl"
    refine iteF ?_
    walk_at "dl"
    refine ite_dec (fun hx => ?_) fun hx => ?_
    · refine s_raise (qx fun hn => ?_)
      have := hn x (List.mem_of_getElem? ex)
      omega
    · walk_at "dl"
      refine ⟨⟨_, rfl⟩, fun j hj y ey => ?_⟩
      by_cases e : j = i
      · subst e
        rw [ex] at ey
        cases ey
        omega
      · exact hp j (by omega) y ey
  · rintro Γ' ⟨⟨s4, rfl⟩, hp⟩
    rw [dI_len] at hp
    intro d1 e1
    cases e1
    refine q fun x hx => ?_
    obtain ⟨j, hj, e⟩ := List.getElem_of_mem hx
    exact hp j hj x (by rw [← e]; simp [hj])


def pm_write (C : Addr) : Pm := fun ds Φ _ => ∃ (t : Tp) (s : Int), ds = [t.d C, .int s] ∧ t.ok ∧ t.G ∧ 0 ≤ s ∧ Φ ((t.wr s).d C)
def pm_move (C X : Addr) : Pm := fun ds Φ Ψ => ∃ (t : Tp) (wy : Int), ds = [t.d C, .int wy] ∧ t.l.length ≤ 4999 ∧ t.r.length ≤ 4999 ∧ t.G ∧ (-1 ≤ wy → wy ≤ 1 → Φ ((t.mv wy).d C)) ∧ (wy < -1 ∨ 1 < wy → Ψ X)
def pm_at (C : Addr) : Pm := fun ds Φ _ => ∃ (t : Tp) (p : Int), ds = [t.d C, .int p] ∧ t.ok ∧ Φ (.int (t.at p))
def pm_word (C : Addr) : Pm := fun ds Φ _ => ∃ (t : Tp), ds = [t.d C] ∧ t.ok ∧ Φ (.tup (dI t.word))
def pm_ones (C : Addr) : Pm := fun ds Φ _ => ∃ (t : Tp), ds = [t.d C] ∧ t.ok ∧ Φ (.int t.ones)
def pm_span (C : Addr) : Pm := fun ds Φ _ => ∃ (t : Tp), ds = [t.d C] ∧ t.ok ∧ Φ (.int t.word.length)
def pm_shown (C : Addr) : Pm := fun ds Φ _ => ∃ (t : Tp), ds = [t.d C] ∧ Φ (.tup [.tup (dI t.l), .int t.h, .tup (dI t.r)])
theorem use_T {C X : Addr} {l r : List Int} {h : Int} {A : Dt → Dt → Prop} {B : Addr → Prop} (hl : l.length ≤ 5000) (hr : r.length ≤ 5000) (n : Nn (trim l ++ [h] ++ trim r)) (p : A .non (mkT C (trim l) h (trim r))) :
    pm_Tape_init C X (.ins C [] []) [.tup (dI l), .int h, .tup (dI r)] A B := ⟨rfl, _, _, l, h, r, rfl, ⟨hl, .inl rfl⟩, ⟨hr, .inl rfl⟩, fun _ => p, fun q => (q n).elim⟩
abbrev s_Tape_write : Stmt := inClass (top 13) 1
abbrev N_Tape_write : List Str := ["self", "sign"]
abbrev P_Tape_write : List Str := ["self", "sign"]
theorem sc_Tape_write : FnScope N_Tape_write P_Tape_write (defScope s_Tape_write) := ⟨rfl, rfl, rfl, by decide +kernel, rfl, by decide +kernel, by decide +kernel⟩
theorem ok_Tape_write {f : Addr} {fd : FuncData} {dvs : List V} {C X : Addr} {d1 d3 : V} (T : Tx K mg) (c : TC K C) (Xc_BadTape : Xc K mg "BadTape" X) (Cd_Tape : Cd P w K mg base C "Tape" P_Tape_init [d1, .int 0, d3] 2 (spI K Tb (pm_Tape_init C X))) (Fd_first_of : Fd P w K mg base "first_of" P_first_of [] 1 (spD K Tb pm_first_of)) (F : FunD K "write" "Tape.write" (defArgs s_Tape_write) (defBody s_Tape_write) (defScope s_Tape_write) dvs [] f fd) : FnOk P w K mg base (L2.CX P w) 4 f fd P_Tape_write (spD K Tb (pm_write C)) := by
  refine fnd_D F sc_Tape_write (fun ds Φ Ψ h => by obtain ⟨t, s, rfl, _⟩ := h; rfl) fun cdv A outer s H E hr => ?_
  have tE : Takes (cxOf (L2.CX P w) P w K mg base N_Tape_write "Tape.write" (defScope s_Tape_write) f cdv A outer s H E) (fun cls d _ H => E cls d H) := takes_of rfl rfl rfl rfl
  have pE : Passes (L2.CX P w) (cxOf (L2.CX P w) P w K mg base N_Tape_write "Tape.write" (defScope s_Tape_write) f cdv A outer s H E) E := passes_call tE fun _ _ _ _ h => h
  refine ⟨_, (pss_one (ps_ret (pe_cd 3 Cd_Tape (by first | decide | simp) (hr.mono (by decide)) (by rfl) pE (pa_cons (pe_fldK K rfl (pv 0) rfl) (pa_cons (pv 1) (pa_cons (pe_fldK K rfl (pv 0) rfl) pa_nil)))))), ?_⟩
  try simp only [cxOf_K]
  rintro ds Φ Ψ ⟨t, s, rfl, ok, gd, hs, q⟩
  obtain ⟨ccl, cll, clh, clr⟩ := c
  walk_at "dl"
  refine use_T ok.1 ok.2 (nn_mk gd.nl hs gd.nr) ⟨rfl, _, _, rfl, ?_⟩
  rw [gd.l, gd.r]
  exact q

abbrev s_Tape_move : Stmt := inClass (top 13) 2
abbrev N_Tape_move : List Str := ["self", "way"]
abbrev P_Tape_move : List Str := ["self", "way"]
theorem sc_Tape_move : FnScope N_Tape_move P_Tape_move (defScope s_Tape_move) := ⟨rfl, rfl, rfl, by decide +kernel, rfl, by decide +kernel, by decide +kernel⟩
theorem ok_Tape_move {f : Addr} {fd : FuncData} {dvs : List V} {C X : Addr} {d1 d3 : V} (T : Tx K mg) (c : TC K C) (Xc_BadTape : Xc K mg "BadTape" X) (Cd_Tape : Cd P w K mg base C "Tape" P_Tape_init [d1, .int 0, d3] 2 (spI K Tb (pm_Tape_init C X))) (Fd_first_of : Fd P w K mg base "first_of" P_first_of [] 1 (spD K Tb pm_first_of)) (F : FunD K "move" "Tape.move" (defArgs s_Tape_move) (defBody s_Tape_move) (defScope s_Tape_move) dvs [] f fd) : FnOk P w K mg base (L2.CX P w) 4 f fd P_Tape_move (spD K Tb (pm_move C X)) := by
  refine fnd_D F sc_Tape_move (fun ds Φ Ψ h => by obtain ⟨t, s, rfl, _⟩ := h; rfl) fun cdv A outer s H E hr => ?_
  have tE : Takes (cxOf (L2.CX P w) P w K mg base N_Tape_move "Tape.move" (defScope s_Tape_move) f cdv A outer s H E) (fun cls d _ H => E cls d H) := takes_of rfl rfl rfl rfl
  have pE : Passes (L2.CX P w) (cxOf (L2.CX P w) P w K mg base N_Tape_move "Tape.move" (defScope s_Tape_move) f cdv A outer s H E) E := passes_call tE fun _ _ _ _ h => h
  refine ⟨_, (pss_cons (ps_if (pt_cmpR (op_eqK K rfl hr.units) (pv 1) pe_int (nomark _)) (pss_one (ps_ret (pe_cd 3 Cd_Tape (by first | decide | simp) (hr.mono (by decide)) (by rfl) pE (pa_cons (pe_fldK K rfl (pv 0) rfl) (pa_cons (pe_fldK K rfl (pv 0) rfl) (pa_cons (pe_fldK K rfl (pv 0) rfl) pa_nil)))))) pss_nil)
      (pss_cons (ps_if (pt_cmpR (op_eqK K rfl hr.units) (pv 1) pe_int (nomark _)) (pss_one (ps_ret (pe_cd 3 Cd_Tape (by first | decide | simp) (hr.mono (by decide)) (by rfl) pE (pa_cons (pe_op (op_addK K rfl) (pe_tup (pa_cons (pe_fldK K rfl (pv 0) rfl) pa_nil)) (pe_fldK K rfl (pv 0) rfl)) (pa_cons (pe_fn 0 Fd_first_of (by first | decide | simp) (hr.mono (by decide)) (by rfl) pE (pa_cons (pe_fldK K rfl (pv 0) rfl) pa_nil)) (pa_cons (pe_slice (sl_K K rfl) (pe_fldK K rfl (pv 0) rfl) (po_some pe_int) po_none) pa_nil)))))) pss_nil)
      (pss_cons (ps_if (pt_cmpR (op_eqK K rfl hr.units) (pv 1) (pe_un un_negX pe_int) (nomark _)) (pss_one (ps_ret (pe_cd 3 Cd_Tape (by first | decide | simp) (hr.mono (by decide)) (by rfl) pE (pa_cons (pe_slice (sl_K K rfl) (pe_fldK K rfl (pv 0) rfl) (po_some pe_int) po_none) (pa_cons (pe_fn 0 Fd_first_of (by first | decide | simp) (hr.mono (by decide)) (by rfl) pE (pa_cons (pe_fldK K rfl (pv 0) rfl) pa_nil)) (pa_cons (pe_op (op_addK K rfl) (pe_tup (pa_cons (pe_fldK K rfl (pv 0) rfl) pa_nil)) (pe_fldK K rfl (pv 0) rfl)) pa_nil)))))) pss_nil)
      (pss_one (ps_rz Xc_BadTape rfl tE (by rfl)))))), ?_⟩
  try simp only [cxOf_K]
  rintro ds Φ Ψ ⟨t, wy, rfl, ol, orr, gd, q, qx⟩
  obtain ⟨ccl, cll, clh, clr⟩ := c
  clear hr tE pE
  walk_at "dl"
  refine ite_dec (fun h0 => ?_) fun h0 => ?_
  · walk_at "dl"
    refine use_T (by omega) (by omega) (nn_mk gd.nl gd.nh gd.nr) ⟨rfl, _, _, rfl, ?_⟩
    have q := q (by omega) (by omega)
    rw [Tp.mv, if_pos h0] at q
    rw [gd.l, gd.r]
    exact q
  · walk_at "dl"
    refine ite_dec (fun h1 => ?_) fun h1 => ?_
    · walk_at "dl"
      refine rd_addT (small (by simp only [List.length_cons, List.length_nil, dI_len]; omega)) ?_
      walk_at "dl"
      refine ⟨_, t.r, rfl, ⟨Nat.le_trans orr (by decide), .inl rfl⟩, ?_⟩
      walk_at "dl"
      rw [dI_cut, show (some (1 : Int)) = some ((1 : Nat) : Int) from rfl, cut_from, show Dt.int t.h :: dI t.l = dI (t.h :: t.l) from rfl]
      refine use_T (by simp only [List.length_cons]; omega) (by rw [List.length_drop]; omega) (nn_mk (nn_cons gd.nh gd.nl) (nn_head gd.nr) (nn_drop 1 gd.nr)) ⟨rfl, _, _, rfl, ?_⟩
      have q := q (by omega) (by omega)
      rw [Tp.mv, if_neg h0, if_pos h1] at q
      exact q
    · walk_at "dl"
      refine ite_dec (fun h2 => ?_) fun h2 => ?_
      · walk_at "dl"
        rw [dI_cut, show (some (1 : Int)) = some ((1 : Nat) : Int) from rfl, cut_from]
        refine ⟨_, t.l, rfl, ⟨Nat.le_trans ol (by decide), .inl rfl⟩, ?_⟩
        walk_at "dl"
        refine rd_addT (small (by simp only [List.length_cons, List.length_nil, dI_len]; omega)) ?_
        walk_at "dl"
        rw [show Dt.int t.h :: dI t.r = dI (t.h :: t.r) from rfl]
        refine use_T (by rw [List.length_drop]; omega) (by simp only [List.length_cons]; omega) (nn_mk (nn_drop 1 gd.nl) (nn_head gd.nl) (nn_cons gd.nh gd.nr)) ⟨rfl, _, _, rfl, ?_⟩
        have q := q (by omega) (by omega)
        rw [Tp.mv, if_neg h0, if_neg h1] at q
        exact q
      · walk_at "dl"
        exact s_raise (qx (by omega))

abbrev s_Tape_at : Stmt := inClass (top 13) 3
abbrev N_Tape_at : List Str := ["self", "place", "side", "far"]
abbrev P_Tape_at : List Str := ["self", "place"]
theorem sc_Tape_at : FnScope N_Tape_at P_Tape_at (defScope s_Tape_at) := ⟨rfl, rfl, rfl, by decide +kernel, rfl, by decide +kernel, by decide +kernel⟩
theorem ok_Tape_at {f : Addr} {fd : FuncData} {dvs : List V} {C X : Addr} {d1 d3 : V} (T : Tx K mg) (c : TC K C) (Xc_BadTape : Xc K mg "BadTape" X) (Cd_Tape : Cd P w K mg base C "Tape" P_Tape_init [d1, .int 0, d3] 2 (spI K Tb (pm_Tape_init C X))) (Fd_first_of : Fd P w K mg base "first_of" P_first_of [] 1 (spD K Tb pm_first_of)) (F : FunD K "at" "Tape.at" (defArgs s_Tape_at) (defBody s_Tape_at) (defScope s_Tape_at) dvs [] f fd) : FnOk P w K mg base (L2.CX P w) 2 f fd P_Tape_at (spD K Tb (pm_at C)) := by
  refine fnd_D F sc_Tape_at (fun ds Φ Ψ h => by obtain ⟨t, s, rfl, _⟩ := h; rfl) fun cdv A outer s H E hr => ?_
  have tE : Takes (cxOf (L2.CX P w) P w K mg base N_Tape_at "Tape.at" (defScope s_Tape_at) f cdv A outer s H E) (fun cls d _ H => E cls d H) := takes_of rfl rfl rfl rfl
  have pE : Passes (L2.CX P w) (cxOf (L2.CX P w) P w K mg base N_Tape_at "Tape.at" (defScope s_Tape_at) f cdv A outer s H E) E := passes_call tE fun _ _ _ _ h => h
  refine ⟨_, (pss_cons (ps_if (pt_cmpR (op_eqK K rfl hr.units) (pv 1) pe_int (nomark _)) (pss_one (ps_ret (pe_fldK K rfl (pv 0) rfl))) pss_nil)
      (pss_cons (ps_set (i := 2) sc_Tape_at.nd rfl (by first | exact Or.inl rfl | exact Or.inr rfl) (pe_ifExp (pt_cmpR op_gtX (pv 1) pe_int (nomark _)) (pe_fldK K rfl (pv 0) rfl) (pe_fldK K rfl (pv 0) rfl)))
      (pss_cons (ps_set (i := 3) sc_Tape_at.nd rfl (by first | exact Or.inl rfl | exact Or.inr rfl) (pe_callB call_absX (by rfl) T.abs (by decide +kernel) (pa_cons (pv 1) pa_nil)))
      (pss_one (ps_ret (pe_fn 0 Fd_first_of (by first | decide | simp) (hr.mono (by decide)) (by rfl) pE (pa_cons (pe_slice (sl_K K rfl) (pv 2) (po_some (pe_op op_subX (pv 3) pe_int)) (po_some (pv 3))) pa_nil))))))), ?_⟩
  try simp only [cxOf_K]
  rintro ds Φ Ψ ⟨t, p, rfl, ⟨ol, orr⟩, q⟩
  obtain ⟨ccl, cll, clh, clr⟩ := c
  clear hr tE pE
  walk_at "dl"
  refine ite_dec (fun h0 => ?_) fun h0 => ?_
  · walk_at "dl"
    rw [Tp.at, if_pos h0] at q
    exact q
  · walk_at "dl"
    have ab : ((p.natAbs : Nat) : Int) = if p < 0 then -p else p := by split <;> omega
    refine ite_dec (fun h => ?_) fun h => ?_
    · walk_at "dl"
      refine ⟨_, cut t.r (some ((p.natAbs - 1 : Nat) : Int)) (some ((p.natAbs : Nat) : Int)), rfl, ?_, ?_⟩
      · rw [dI_cut, ← ab, show ((p.natAbs : Nat) : Int) - 1 = ((p.natAbs - 1 : Nat) : Int) by omega]
        exact ⟨Nat.le_trans (cut_le _ _ _) (by omega), .inl rfl⟩
      · walk_at "dl"
        rw [cut_one _ (by omega), ← at_head]
        rw [Tp.at, if_neg h0, if_pos h] at q
        exact q
    · walk_at "dl"
      refine ⟨_, cut t.l (some ((p.natAbs - 1 : Nat) : Int)) (some ((p.natAbs : Nat) : Int)), rfl, ?_, ?_⟩
      · rw [dI_cut, ← ab, show ((p.natAbs : Nat) : Int) - 1 = ((p.natAbs - 1 : Nat) : Int) by omega]
        exact ⟨Nat.le_trans (cut_le _ _ _) (by omega), .inl rfl⟩
      · walk_at "dl"
        rw [cut_one _ (by omega), ← at_head]
        rw [Tp.at, if_neg h0, if_neg h] at q
        exact q

end
end TW
namespace TW
open PySem L2 Evl DL
local macro_rules | `(tactic| walk_at "d1") => `(tactic| with_reducible first
  | refine s_seq ?_
  | refine iteT ?_
  | refine iteF ?_
  | refine s_asg ?_
  | refine g_nm rfl rfl ?_
  | refine s_if ?_
  | refine s_ret ?_
  | refine s_next ?_
  | refine s_retN ?_
  | refine s_drop ?_
  | refine s_brk ?_
  | refine s_cont ?_
  | refine s_aug1 rfl rfl ?_
  | refine s_fldO ?_
  | refine Exists.intro _ (Exists.intro _ (Exists.intro _ (And.intro rfl (And.intro (by assumption) (And.intro (by assumption) (And.intro (by decide) ?_))))))
  | refine w_var rfl ?_
  | refine w_int ?_
  | refine w_str ?_
  | refine w_bl ?_
  | refine w_non ?_
  | refine t_cmp ?_
  | refine rd_ixO rfl rfl ?_
  | refine w_op ?_
  | refine w_un ?_
  | refine w_chain ?_
  | refine t_test ?_
  | refine t_B ?_
  | refine t_not ?_
  | refine t_and ?_
  | refine t_or ?_
  | refine w_andV ?_
  | refine w_orV ?_
  | refine w_notV ?_
  | refine w_if ?_
  | refine w_tup ?_
  | refine w_lst ?_
  | refine w_isiInt ?_
  | refine w_rev ?_
  | refine w_cb ?_
  | refine w_sl ?_
  | refine w_join ?_
  | refine t_yes ?_
  | refine w_m1 ?_
  | refine rj_find ?_
  | refine rj_count ?_
  | refine w_joined ?_
  | refine a_nil ?_
  | refine a_cons ?_
  | refine o_none ?_
  | refine o_some ?_
  | refine g_tup rfl ?_
  | refine g_setO rfl rfl ?_
  | refine gs_nil ?_
  | refine gs_cons ?_
  | refine j_nil ?_
  | refine j_cons ?_
  | refine rd_lt ?_
  | refine rd_le ?_
  | refine rd_gt ?_
  | refine rd_ge ?_
  | refine rd_sub ?_
  | refine rd_mod (by first | decide | assumption) ?_
  | refine rd_div (by first | decide | (constructor <;> omega)) ?_
  | refine rd_mulR (by decide) ?_
  | refine rd_powC (by decide) ?_
  | refine rd_addI ?_
  | refine rd_eqI ?_
  | refine rd_neI ?_
  | refine rd_eqS ?_
  | refine rd_neS ?_
  | refine rd_eqB ?_
  | refine rd_neB ?_
  | refine rd_ipa ?_
  | refine rd_ips ?_
  | refine ru_neg ?_
  | refine rx_lenT ?_
  | refine rx_lenL ?_
  | refine rx_abs ?_
  | refine rc_intI ?_
  | refine rc_intB ?_
  | refine rc_tupT ?_
  | refine rc_tupL ?_
  | refine rc_tupR ?_
  | refine rs_tup ?_
  | refine rs_lst ?_
  | refine w_fldO rfl (by assumption) (by assumption) rfl ?_
  | refine w_fldV rfl (by assumption) (by assumption) rfl ?_
  | refine w_fld ?_
  | refine Exists.intro _ (And.intro rfl ?_)
  | refine Exists.intro _ (Exists.intro _ (Exists.intro _ (Exists.intro _ (And.intro rfl (And.intro (by assumption) (And.intro (by assumption) (And.intro (by rfl) ?_)))))))
  | refine w_callI (dds := []) (fun _ => .nil) (Exists.intro _ rfl) ?_
  | refine w_callI0 (dds := []) (fun _ => .nil) (Exists.intro _ rfl) ?_
  | refine w_call (dds := []) (fun _ => .nil) ?_
  | refine w_call0 (dds := []) (fun _ => .nil) ?_
  | refine w_make (dds := []) (fun _ => .nil) ?_
  | refine w_make0 (dds := []) (fun _ => .nil) ?_
  | refine w_meth (dds := []) (fun _ => .nil) ?_
  | refine w_meth0 (dds := []) (fun _ => .nil) ?_
  | refine And.intro (small (by simp only [List.length_cons, List.length_nil]; omega)) ?_
  | refine Exists.intro _ (Exists.intro _ (And.intro rfl (And.intro (by decide) ?_)))
  | refine Or.inl (Exists.intro _ (And.intro rfl ?_))
  | refine Or.inr (Exists.intro _ (And.intro rfl ?_))
  | refine And.intro rfl ?_)
local macro_rules | `(tactic| walk_at "dl") => `(tactic| repeat (first | walk_at "d1" | (dsimp only [onx, rets, lpe, rets1, List.cons_append, List.nil_append])))

local macro_rules | `(tactic| walk_at "n1") => `(tactic| with_reducible first
  | refine s_seq ?_
  | refine iteT ?_
  | refine iteF ?_
  | refine s_asg ?_
  | refine g_nm rfl rfl ?_
  | refine s_ret ?_
  | refine s_next ?_
  | refine s_retN ?_
  | refine s_drop ?_
  | refine s_brk ?_
  | refine s_cont ?_
  | refine s_aug1 rfl rfl ?_
  | refine s_fldO ?_
  | refine Exists.intro _ (Exists.intro _ (Exists.intro _ (And.intro rfl (And.intro (by assumption) (And.intro (by assumption) (And.intro (by decide) ?_))))))
  | refine w_var rfl ?_
  | refine w_int ?_
  | refine w_str ?_
  | refine w_bl ?_
  | refine w_non ?_
  | refine t_cmp ?_
  | refine rd_ixO rfl rfl ?_
  | refine w_op ?_
  | refine w_un ?_
  | refine w_chain ?_
  | refine t_test ?_
  | refine t_B ?_
  | refine t_not ?_
  | refine t_and ?_
  | refine t_or ?_
  | refine w_andV ?_
  | refine w_orV ?_
  | refine w_notV ?_
  | refine w_tup ?_
  | refine w_lst ?_
  | refine w_isiInt ?_
  | refine w_rev ?_
  | refine w_cb ?_
  | refine w_sl ?_
  | refine w_join ?_
  | refine t_yes ?_
  | refine w_m1 ?_
  | refine rj_find ?_
  | refine rj_count ?_
  | refine w_joined ?_
  | refine a_nil ?_
  | refine a_cons ?_
  | refine o_none ?_
  | refine o_some ?_
  | refine g_tup rfl ?_
  | refine g_setO rfl rfl ?_
  | refine gs_nil ?_
  | refine gs_cons ?_
  | refine j_nil ?_
  | refine j_cons ?_
  | refine rd_lt ?_
  | refine rd_le ?_
  | refine rd_gt ?_
  | refine rd_ge ?_
  | refine rd_sub ?_
  | refine rd_mod (by first | decide | assumption) ?_
  | refine rd_div (by first | decide | (constructor <;> omega)) ?_
  | refine rd_mulR (by decide) ?_
  | refine rd_powC (by decide) ?_
  | refine rd_addI ?_
  | refine rd_eqI ?_
  | refine rd_neI ?_
  | refine rd_eqS ?_
  | refine rd_neS ?_
  | refine rd_eqB ?_
  | refine rd_neB ?_
  | refine rd_ipa ?_
  | refine rd_ips ?_
  | refine ru_neg ?_
  | refine rx_lenT ?_
  | refine rx_lenL ?_
  | refine rx_abs ?_
  | refine rc_intI ?_
  | refine rc_intB ?_
  | refine rc_tupT ?_
  | refine rc_tupL ?_
  | refine rc_tupR ?_
  | refine rs_tup ?_
  | refine rs_lst ?_
  | refine w_fldO rfl (by assumption) (by assumption) rfl ?_
  | refine w_fldV rfl (by assumption) (by assumption) rfl ?_
  | refine w_fld ?_
  | refine Exists.intro _ (And.intro rfl ?_)
  | refine Exists.intro _ (Exists.intro _ (Exists.intro _ (Exists.intro _ (And.intro rfl (And.intro (by assumption) (And.intro (by assumption) (And.intro (by rfl) ?_)))))))
  | refine w_callI (dds := []) (fun _ => .nil) (Exists.intro _ rfl) ?_
  | refine w_callI0 (dds := []) (fun _ => .nil) (Exists.intro _ rfl) ?_
  | refine w_call (dds := []) (fun _ => .nil) ?_
  | refine w_call0 (dds := []) (fun _ => .nil) ?_
  | refine w_make (dds := []) (fun _ => .nil) ?_
  | refine w_make0 (dds := []) (fun _ => .nil) ?_
  | refine w_meth (dds := []) (fun _ => .nil) ?_
  | refine w_meth0 (dds := []) (fun _ => .nil) ?_
  | refine And.intro (small (by simp only [List.length_cons, List.length_nil]; omega)) ?_
  | refine Exists.intro _ (Exists.intro _ (And.intro rfl (And.intro (by decide) ?_)))
  | refine Or.inl (Exists.intro _ (And.intro rfl ?_))
  | refine Or.inr (Exists.intro _ (And.intro rfl ?_))
  | refine And.intro rfl ?_)
local macro_rules | `(tactic| walk_at "nl") => `(tactic| repeat (first | walk_at "n1" | (dsimp only [onx, rets, lpe, rets1, List.cons_append, List.nil_append])))
section
variable {P : Program} {w : World} {K : PySem.W.Frag} {Tb : TbT} {mg : Str → Option Value} {base : Heap}
abbrev s_Tape_word : Stmt := inClass (top 13) 6
abbrev N_Tape_word : List Str := ["self"]
abbrev P_Tape_word : List Str := ["self"]
theorem sc_Tape_word : FnScope N_Tape_word P_Tape_word (defScope s_Tape_word) := ⟨rfl, rfl, rfl, by decide +kernel, rfl, by decide +kernel, by decide +kernel⟩
theorem ok_Tape_word {f : Addr} {fd : FuncData} {dvs : List V} {C X : Addr} {d1 d3 : V} (T : Tx K mg) (c : TC K C) (Xc_BadTape : Xc K mg "BadTape" X) (Cd_Tape : Cd P w K mg base C "Tape" P_Tape_init [d1, .int 0, d3] 2 (spI K Tb (pm_Tape_init C X))) (Fd_first_of : Fd P w K mg base "first_of" P_first_of [] 1 (spD K Tb pm_first_of)) (F : FunD K "word" "Tape.word" (defArgs s_Tape_word) (defBody s_Tape_word) (defScope s_Tape_word) dvs [] f fd) : FnOk P w K mg base (L2.CX P w) 1 f fd P_Tape_word (spD K Tb (pm_word C)) := by
  refine fnd_D F sc_Tape_word (fun ds Φ Ψ h => by obtain ⟨t, rfl, _⟩ := h; rfl) fun cdv A outer s H E hr => ?_
  have tE : Takes (cxOf (L2.CX P w) P w K mg base N_Tape_word "Tape.word" (defScope s_Tape_word) f cdv A outer s H E) (fun cls d _ H => E cls d H) := takes_of rfl rfl rfl rfl
  have pE : Passes (L2.CX P w) (cxOf (L2.CX P w) P w K mg base N_Tape_word "Tape.word" (defScope s_Tape_word) f cdv A outer s H E) E := passes_call tE fun _ _ _ _ h => h
  refine ⟨_, (pss_one (ps_ret (pe_op (op_addK K rfl) (pe_op (op_addK K rfl) (pe_revK K rfl (pe_fldK K rfl (pv 0) rfl)) (pe_tup (pa_cons (pe_fldK K rfl (pv 0) rfl) pa_nil))) (pe_fldK K rfl (pv 0) rfl)))), ?_⟩
  try simp only [cxOf_K]
  rintro ds Φ Ψ ⟨t, rfl, ⟨ol, orr⟩, q⟩
  obtain ⟨ccl, cll, clh, clr⟩ := c
  clear hr tE pE
  walk_at "dl"
  refine rd_addT (small (by simp only [List.length_cons, List.length_nil, List.length_reverse, dI_len]; omega)) ?_
  walk_at "dl"
  refine rd_addT (small (by simp only [List.length_append, List.length_cons, List.length_nil, List.length_reverse, dI_len]; omega)) ?_
  rw [show (dI t.l).reverse ++ [Dt.int t.h] ++ dI t.r = dI t.word by unfold dI Tp.word; simp]
  exact q

abbrev s_Tape_shown : Stmt := inClass (top 13) 7
abbrev N_Tape_shown : List Str := ["self"]
abbrev P_Tape_shown : List Str := ["self"]
theorem sc_Tape_shown : FnScope N_Tape_shown P_Tape_shown (defScope s_Tape_shown) := ⟨rfl, rfl, rfl, by decide +kernel, rfl, by decide +kernel, by decide +kernel⟩
theorem ok_Tape_shown {f : Addr} {fd : FuncData} {dvs : List V} {C X : Addr} {d1 d3 : V} (T : Tx K mg) (c : TC K C) (Xc_BadTape : Xc K mg "BadTape" X) (Cd_Tape : Cd P w K mg base C "Tape" P_Tape_init [d1, .int 0, d3] 2 (spI K Tb (pm_Tape_init C X))) (Fd_first_of : Fd P w K mg base "first_of" P_first_of [] 1 (spD K Tb pm_first_of)) (F : FunD K "shown" "Tape.shown" (defArgs s_Tape_shown) (defBody s_Tape_shown) (defScope s_Tape_shown) dvs [] f fd) : FnOk P w K mg base (L2.CX P w) 1 f fd P_Tape_shown (spD K Tb (pm_shown C)) := by
  refine fnd_D F sc_Tape_shown (fun ds Φ Ψ h => by obtain ⟨t, rfl, _⟩ := h; rfl) fun cdv A outer s H E hr => ?_
  have tE : Takes (cxOf (L2.CX P w) P w K mg base N_Tape_shown "Tape.shown" (defScope s_Tape_shown) f cdv A outer s H E) (fun cls d _ H => E cls d H) := takes_of rfl rfl rfl rfl
  have pE : Passes (L2.CX P w) (cxOf (L2.CX P w) P w K mg base N_Tape_shown "Tape.shown" (defScope s_Tape_shown) f cdv A outer s H E) E := passes_call tE fun _ _ _ _ h => h
  refine ⟨_, (pss_one (ps_ret (pe_tup (pa_cons (pe_fldK K rfl (pv 0) rfl) (pa_cons (pe_fldK K rfl (pv 0) rfl) (pa_cons (pe_fldK K rfl (pv 0) rfl) pa_nil)))))), ?_⟩
  try simp only [cxOf_K]
  rintro ds Φ Ψ ⟨t, rfl, q⟩
  obtain ⟨ccl, cll, clh, clr⟩ := c
  clear hr tE pE
  walk_at "dl"
  exact q


theorem filt_dI {ns : List Int} (p : Int → Bool) (pd : Dt → Bool) (h : ∀ i, pd (.int i) = p i) : (dI ns).filter pd = dI (ns.filter p) := by
  unfold dI
  rw [List.filter_map]
  congr 1
  congr 1
  funext i
  exact h i
theorem word_len (t : Tp) (ok : t.ok) : t.word.length ≤ 10001 := by
  have := ok.1
  have := ok.2
  unfold Tp.word
  simp only [List.length_append, List.length_cons, List.length_nil, List.length_reverse]
  omega
abbrev s_Tape_span : Stmt := inClass (top 13) 5
abbrev N_Tape_span : List Str := ["self"]
abbrev P_Tape_span : List Str := ["self"]
theorem sc_Tape_span : FnScope N_Tape_span P_Tape_span (defScope s_Tape_span) := ⟨rfl, rfl, rfl, by decide +kernel, rfl, by decide +kernel, by decide +kernel⟩
theorem ok_Tape_span {f : Addr} {fd : FuncData} {dvs : List V} {C X : Addr} {d1 d3 : V} (T : Tx K mg) (c : TC K C) (Xc_BadTape : Xc K mg "BadTape" X) (Cd_Tape : Cd P w K mg base C "Tape" P_Tape_init [d1, .int 0, d3] 2 (spI K Tb (pm_Tape_init C X))) (Fd_first_of : Fd P w K mg base "first_of" P_first_of [] 1 (spD K Tb pm_first_of)) (Md_Tape_word : Md P w K mg base C "word" P_Tape_word [] 1 (spD K Tb (pm_word C))) (F : FunD K "span" "Tape.span" (defArgs s_Tape_span) (defBody s_Tape_span) (defScope s_Tape_span) dvs [] f fd) : FnOk P w K mg base (L2.CX P w) 2 f fd P_Tape_span (spD K Tb (pm_span C)) := by
  refine fnd_D F sc_Tape_span (fun ds Φ Ψ h => by obtain ⟨t, rfl, _⟩ := h; rfl) fun cdv A outer s H E hr => ?_
  have tE : Takes (cxOf (L2.CX P w) P w K mg base N_Tape_span "Tape.span" (defScope s_Tape_span) f cdv A outer s H E) (fun cls d _ H => E cls d H) := takes_of rfl rfl rfl rfl
  have pE : Passes (L2.CX P w) (cxOf (L2.CX P w) P w K mg base N_Tape_span "Tape.span" (defScope s_Tape_span) f cdv A outer s H E) E := passes_call tE fun _ _ _ _ h => h
  refine ⟨_, (pss_one (ps_ret (pe_callB (call_lenK K rfl) (by rfl) T.len (by decide +kernel) (pa_cons (pe_md0 Md_Tape_word (pv 0) (hr.mono (by decide)) pE) pa_nil)))), ?_⟩
  try simp only [cxOf_K]
  rintro ds Φ Ψ ⟨t, rfl, ok, q⟩
  obtain ⟨ccl, cll, clh, clr⟩ := c
  clear hr tE pE
  walk_at "dl"
  refine ⟨t, rfl, ok, ?_⟩
  walk_at "dl"
  rw [dI_len]
  exact q

abbrev s_Tape_ones : Stmt := inClass (top 13) 4
abbrev N_Tape_ones : List Str := ["self", "sign"]
abbrev P_Tape_ones : List Str := ["self"]
theorem sc_Tape_ones : FnScope N_Tape_ones P_Tape_ones (defScope s_Tape_ones) := ⟨rfl, rfl, rfl, by decide +kernel, rfl, by decide +kernel, by decide +kernel⟩
theorem ok_Tape_ones {f : Addr} {fd : FuncData} {dvs : List V} {C X : Addr} {d1 d3 : V} (T : Tx K mg) (c : TC K C) (Xc_BadTape : Xc K mg "BadTape" X) (Cd_Tape : Cd P w K mg base C "Tape" P_Tape_init [d1, .int 0, d3] 2 (spI K Tb (pm_Tape_init C X))) (Fd_first_of : Fd P w K mg base "first_of" P_first_of [] 1 (spD K Tb pm_first_of)) (Md_Tape_word : Md P w K mg base C "word" P_Tape_word [] 1 (spD K Tb (pm_word C))) (F : FunD K "ones" "Tape.ones" (defArgs s_Tape_ones) (defBody s_Tape_ones) (defScope s_Tape_ones) dvs [] f fd) : FnOk P w K mg base (L2.CX P w) 2 f fd P_Tape_ones (spD K Tb (pm_ones C)) := by
  refine fnd_D F sc_Tape_ones (fun ds Φ Ψ h => by obtain ⟨t, rfl, _⟩ := h; rfl) fun cdv A outer s H E hr => ?_
  have tE : Takes (cxOf (L2.CX P w) P w K mg base N_Tape_ones "Tape.ones" (defScope s_Tape_ones) f cdv A outer s H E) (fun cls d _ H => E cls d H) := takes_of rfl rfl rfl rfl
  have pE : Passes (L2.CX P w) (cxOf (L2.CX P w) P w K mg base N_Tape_ones "Tape.ones" (defScope s_Tape_ones) f cdv A outer s H E) E := passes_call tE fun _ _ _ _ h => h
  refine ⟨_, (pss_one (ps_ret (pe_callB (call_lenK K rfl) (by rfl) T.len (by decide +kernel) (pa_cons (pe_lc (own := [("sign", 1)]) rfl sc_Tape_ones.nd (pi_or (pi_tupK K rfl (pe_md0 Md_Tape_word (pv 0) (hr.mono (by decide)) pE)) (pi_listK K rfl (pe_md0 Md_Tape_word (pv 0) (hr.mono (by decide)) pE))) (blkOk_by (N := N_Tape_ones) (sc := defScope s_Tape_ones) (by decide +kernel)) (fun _ _ _ _ _ => (pg_name (i := 1) sc_Tape_ones.nd rfl (by first | exact Or.inl rfl | exact Or.inr rfl))) (fun _ _ _ _ _ => pts_one (pt_cmpR (op_neK K rfl hr.units) (pv 1) pe_int (nomark _))) (fun _ _ _ _ _ => (pv 1))) pa_nil)))), ?_⟩
  try simp only [cxOf_K]
  rintro ds Φ Ψ ⟨t, rfl, ok, q⟩
  obtain ⟨ccl, cll, clh, clr⟩ := c
  clear hr tE pE
  walk_at "dl"
  refine w_lcF rfl (tgt_name (by simp)) (fun d => match d with | .int i => !decide (i = 0) | _ => false) id (ix_l (i_tup ?_))
  walk_at "dl"
  refine ⟨t, rfl, ok, ?_⟩
  have hw := word_len t ok
  refine ⟨_, rfl, small (by rw [dI_len]; omega), fun i d ed => ?_, ?_⟩
  · obtain ⟨x, ex, rfl⟩ := dI_at ed
    walk_at "dl"
    refine ite_nb (fun h => ?_) fun h => ?_
    · walk_at "dl"
      rfl
    · rfl
  · walk_at "dl"
    rw [List.map_id, filt_dI (fun x => decide (x ≠ 0)) _ (fun i => by simp), dI_len]
    exact q


def pm_of_word (C X : Addr) : Pm := fun ds Φ Ψ => ∃ (d : Dt) (ns : List Int) (p : Int), ds = [d, .int p] ∧ ns.length ≤ 4000 ∧ Sq d (dI ns) ∧ Nn ns ∧
  ((ns = [] ∧ p = 0) ∨ (0 ≤ p ∧ p < ns.length) → Φ ((Tp.mk' (ns.take p.toNat).reverse (ns.getD p.toNat 0) (ns.drop (p.toNat + 1))).d C)) ∧ (¬ ((ns = [] ∧ p = 0) ∨ (0 ≤ p ∧ p < ns.length)) → Ψ X)
def pm_turned_tape (C : Addr) : Pm := fun ds Φ _ => ∃ (t : Tp), ds = [t.d C] ∧ t.ok ∧ t.G ∧ Φ (t.turn.d C)
def figs (ns : List Int) : Str := Txt.join "" (ns.map fun i => toString i)
def Tp.text (t : Tp) : Str := figs t.l.reverse ++ "[" ++ toString t.h ++ "]" ++ figs t.r
def pm_told_tape (C X : Addr) : Pm := fun ds Φ Ψ => ∃ (t : Tp), ds = [t.d C] ∧ t.ok ∧ t.G ∧ ((∀ x ∈ t.word, x ≤ 9) → Φ (.str t.text)) ∧ (¬ (∀ x ∈ t.word, x ≤ 9) → Ψ X)
abbrev s_turned_tape : Stmt := top 20
abbrev N_turned_tape : List Str := ["tape"]
abbrev P_turned_tape : List Str := ["tape"]
theorem sc_turned_tape : FnScope N_turned_tape P_turned_tape (defScope s_turned_tape) := ⟨rfl, rfl, rfl, by decide +kernel, rfl, by decide +kernel, by decide +kernel⟩
theorem ok_turned_tape {f : Addr} {fd : FuncData} {dvs : List V} {C X : Addr} {d1 d3 : V} (T : Tx K mg) (c : TC K C) (Xc_BadTape : Xc K mg "BadTape" X) (Cd_Tape : Cd P w K mg base C "Tape" P_Tape_init [d1, .int 0, d3] 2 (spI K Tb (pm_Tape_init C X))) (Fd_first_of : Fd P w K mg base "first_of" P_first_of [] 1 (spD K Tb pm_first_of)) (F : FunD K "turned_tape" "turned_tape" (defArgs s_turned_tape) (defBody s_turned_tape) (defScope s_turned_tape) dvs [] f fd) : FnOk P w K mg base (L2.CX P w) 4 f fd P_turned_tape (spD K Tb (pm_turned_tape C)) := by
  refine fnd_D F sc_turned_tape (fun ds Φ Ψ h => by obtain ⟨t, rfl, _⟩ := h; rfl) fun cdv A outer s H E hr => ?_
  have tE : Takes (cxOf (L2.CX P w) P w K mg base N_turned_tape "turned_tape" (defScope s_turned_tape) f cdv A outer s H E) (fun cls d _ H => E cls d H) := takes_of rfl rfl rfl rfl
  have pE : Passes (L2.CX P w) (cxOf (L2.CX P w) P w K mg base N_turned_tape "turned_tape" (defScope s_turned_tape) f cdv A outer s H E) E := passes_call tE fun _ _ _ _ h => h
  refine ⟨_, (pss_one (ps_ret (pe_cd 3 Cd_Tape (by first | decide | simp) (hr.mono (by decide)) (by rfl) pE (pa_cons (pe_fldK K rfl (pv 0) rfl) (pa_cons (pe_fldK K rfl (pv 0) rfl) (pa_cons (pe_fldK K rfl (pv 0) rfl) pa_nil)))))), ?_⟩
  try simp only [cxOf_K]
  rintro ds Φ Ψ ⟨t, rfl, ok, gd, q⟩
  obtain ⟨ccl, cll, clh, clr⟩ := c
  clear hr tE pE
  walk_at "dl"
  refine use_T ok.2 ok.1 (nn_mk gd.nr gd.nh gd.nl) ⟨rfl, _, _, rfl, ?_⟩
  rw [gd.l, gd.r]
  exact q

abbrev s_of_word : Stmt := top 16
abbrev N_of_word : List Str := ["word", "place", "row"]
abbrev P_of_word : List Str := ["word", "place"]
theorem sc_of_word : FnScope N_of_word P_of_word (defScope s_of_word) := ⟨rfl, rfl, rfl, by decide +kernel, rfl, by decide +kernel, by decide +kernel⟩
theorem ok_of_word {f : Addr} {fd : FuncData} {dvs : List V} {C X : Addr} {d1 d3 : V} (T : Tx K mg) (c : TC K C) (Xc_BadTape : Xc K mg "BadTape" X) (Cd_Tape : Cd P w K mg base C "Tape" P_Tape_init [d1, .int 0, d3] 2 (spI K Tb (pm_Tape_init C X))) (Fd_first_of : Fd P w K mg base "first_of" P_first_of [] 1 (spD K Tb pm_first_of)) (hdd : ∀ F, IsL K F [d1, .int 0, d3] [.tup [], .int 0, .tup []]) (F : FunD K "of_word" "of_word" (defArgs s_of_word) (defBody s_of_word) (defScope s_of_word) dvs [] f fd) : FnOk P w K mg base (L2.CX P w) 4 f fd P_of_word (spD K Tb (pm_of_word C X)) := by
  refine fnd_D F sc_of_word (fun ds Φ Ψ h => by obtain ⟨d, ns, p, rfl, _⟩ := h; rfl) fun cdv A outer s H E hr => ?_
  have tE : Takes (cxOf (L2.CX P w) P w K mg base N_of_word "of_word" (defScope s_of_word) f cdv A outer s H E) (fun cls d _ H => E cls d H) := takes_of rfl rfl rfl rfl
  have pE : Passes (L2.CX P w) (cxOf (L2.CX P w) P w K mg base N_of_word "of_word" (defScope s_of_word) f cdv A outer s H E) E := passes_call tE fun _ _ _ _ h => h
  refine ⟨_, (pss_cons (ps_set (i := 2) sc_of_word.nd rfl (by first | exact Or.inl rfl | exact Or.inr rfl) (pe_callTy (call_tupK K rfl) (by rfl) T.tuple (by decide +kernel) (pa_cons (pv 0) pa_nil)))
      (pss_cons (ps_if (PW.pt (pw_and (pt_cmpR (op_eqK K rfl hr.units) (pv 2) (pe_tup pa_nil) (nomark _)) (pw_and1 (pt_cmpR (op_eqK K rfl hr.units) (pv 1) pe_int (nomark _))))) (pss_one (ps_ret (pe_cd0 Cd_Tape (hr.mono (by decide)) (by rfl) pE))) pss_nil)
      (pss_cons (ps_if (pt_not (pt_chain op_leX op_ltX pe_int (pv 1) (pe_callB (call_lenK K rfl) (by rfl) T.len (by decide +kernel) (pa_cons (pv 2) pa_nil)))) (pss_one (ps_rz Xc_BadTape rfl tE (by rfl))) pss_nil)
      (pss_one (ps_ret (pe_cd 3 Cd_Tape (by first | decide | simp) (hr.mono (by decide)) (by rfl) pE (pa_cons (pe_revK K rfl (pe_slice (sl_K K rfl) (pv 2) po_none (po_some (pv 1)))) (pa_cons (pe_ix (ix_seqK K rfl) (pv 2) (pv 1) (fun _ _ => rfl)) (pa_cons (pe_slice (sl_K K rfl) (pv 2) (po_some (pe_op (op_addK K rfl) (pv 1) pe_int)) po_none) pa_nil))))))))), ?_⟩
  try simp only [cxOf_K]
  rintro ds Φ Ψ ⟨d, ns, p, rfl, hl, sq, nn, q, qx⟩
  obtain ⟨ccl, cll, clh, clr⟩ := c
  clear hr tE pE
  walk_at "nl"
  refine rc_tupQ sq ?_
  walk_at "nl"
  refine s_ifP (ns = [] ∧ p = 0) ?_ (fun h => ?_) fun h => ?_
  · walk_at "dl"
    refine rd_eqE (eqe_tup eqe_int) (by decide) ns [] ?_
    walk_at "dl"
    refine ite_dec (fun h => ?_) fun h => ?_
    · walk_at "dl"
      simp [h]
    · walk_at "dl"
      simp [h]
  · walk_at "nl"
    refine w_make (dds := [.tup [], .int 0, .tup []]) hdd ?_
    walk_at "dl"
    refine use_T (l := []) (r := []) (by decide) (by decide) (fun x m => by simp [trim] at m; omega) ⟨rfl, _, _, rfl, ?_⟩
    have q := q (.inl h)
    obtain ⟨rfl, rfl⟩ := h
    exact q
  · walk_at "nl"
    refine s_ifP (¬ (0 ≤ p ∧ p < ns.length)) ?_ (fun h1 => ?_) fun h1 => ?_
    · walk_at "dl"
      refine ite_dec (fun h => ?_) fun h => ?_
      · walk_at "dl"
        rw [dI_len]
        simp [h]
      · walk_at "dl"
        simp [h]
    · exact s_raise (qx fun z => z.elim h h1)
    · have h2 := Classical.not_not.mp h1
      walk_at "dl"
      rw [dI_cut, dI_rev]
      obtain ⟨k, rfl⟩ : ∃ k : Nat, p = k := ⟨p.toNat, by omega⟩
      have hk : k < ns.length := by omega
      have ek : ns[k]? = some ns[k] := by simp [hk]
      refine rd_ixT (d := .int ns[k]) (atI_nat (dI_get ek)) ?_
      walk_at "dl"
      rw [dI_cut, cut_to, show (k : Int) + 1 = ((k + 1 : Nat) : Int) by omega, cut_from]
      have q := q (.inr h2)
      rw [Int.toNat_natCast, show ns.getD k 0 = ns[k] by simp [List.getD_eq_getElem?_getD, ek]] at q
      refine use_T (by rw [List.length_reverse, List.length_take]; omega) (by rw [List.length_drop]; omega) (nn_mk (fun x m => nn x (List.mem_of_mem_take (List.mem_reverse.mp m))) (nn _ (List.getElem_mem hk)) (fun x m => nn x (List.mem_of_mem_drop m))) ⟨rfl, _, _, rfl, ?_⟩
      exact q


theorem fig_len {i : Int} (h0 : 0 ≤ i) (h9 : i ≤ 9) : (toString i : Str).length = 1 := by
  have : i = 0 ∨ i = 1 ∨ i = 2 ∨ i = 3 ∨ i = 4 ∨ i = 5 ∨ i = 6 ∨ i = 7 ∨ i = 8 ∨ i = 9 := by omega
  rcases this with rfl | rfl | rfl | rfl | rfl | rfl | rfl | rfl | rfl | rfl <;> rfl
theorem figs_sum : ∀ (ns : List Int), (∀ x ∈ ns, 0 ≤ x ∧ x ≤ 9) → ((ns.map fun i => (toString i : Str)).map (·.length)).sum = ns.length
  | [], _ => rfl
  | x :: r, h => by
    have h1 := figs_sum r fun y hy => h y (List.mem_cons_of_mem _ hy)
    have h2 := h x (by simp)
    simp only [List.map_cons, List.sum_cons, List.length_cons, fig_len h2.1 h2.2] at h1 ⊢
    omega
def dStr : Dt → Dt
  | .int i => .str (toString i)
  | d => d
theorem dStr_map (ns : List Int) : (dI ns).map dStr = (ns.map fun i => (toString i : Str)).map Dt.str := by
  unfold dI
  rw [List.map_map, List.map_map]
  rfl
theorem log_small {i : Int} (h0 : 0 ≤ i) (h : i ≤ 1000) : i.natAbs.log2 < 1920 := by
  have : i.natAbs ≤ 1000 := by omega
  exact Nat.lt_of_le_of_lt (Nat.log2_le_self _) (by omega)
abbrev s_told_tape : Stmt := top 17
abbrev N_told_tape : List Str := ["tape", "left", "right", "sign"]
abbrev P_told_tape : List Str := ["tape"]
theorem sc_told_tape : FnScope N_told_tape P_told_tape (defScope s_told_tape) := ⟨rfl, rfl, rfl, by decide +kernel, rfl, by decide +kernel, by decide +kernel⟩
theorem ok_told_tape {f : Addr} {fd : FuncData} {dvs : List V} {C X c Pt : Addr} (T : Tx K mg) (cc : TC K C) (Xc_BadTape : Xc K mg "BadTape" X) (Md_Tape_word : Md P w K mg base C "word" P_Tape_word [] 1 (spD K Tb (pm_word C))) (TB_told_tape : GxR.TabB base mg c Pt) (hPt : (Pt, ("told_tape" : Str) ++ ".<locals>." ++ "<genexpr>") ∈ Tb.l) (hPl : ∀ x ∈ Tb.l, x.1 = Pt → x.2 = ("told_tape" : Str) ++ ".<locals>." ++ "<genexpr>") (hTg : Tb.g = []) (F : FunDc K "told_tape" "told_tape" (defArgs s_told_tape) (defBody s_told_tape) (defScope s_told_tape) dvs f fd c) : FnOk P w K mg base (L2.CX P w) 2 f fd P_told_tape (spD K Tb (pm_told_tape C X)) := by
  refine fnd_Dc F sc_told_tape (fun ds Φ Ψ h => by obtain ⟨t, rfl, _⟩ := h; rfl) fun A outer s H E hr => ?_
  have tE : Takes (cxOf (L2.CX P w) P w K mg base N_told_tape "told_tape" (defScope s_told_tape) f (.ref c) A outer s H E) (fun cls d _ H => E cls d H) := takes_of rfl rfl rfl rfl
  have pE : Passes (L2.CX P w) (cxOf (L2.CX P w) P w K mg base N_told_tape "told_tape" (defScope s_told_tape) f (.ref c) A outer s H E) E := passes_call tE fun _ _ _ _ h => h
  refine ⟨_, (pss_cons (ps_if (pt_val (pe_anyI K rfl (("told_tape" : Str) ++ ".<locals>.") rfl hr (by rfl) T.any TB_told_tape rfl ⟨rfl, rfl, by decide +kernel, rfl, rfl, by intro y hy hf; simp only [List.mem_cons, List.not_mem_nil, or_false] at hy; rcases hy with rfl | rfl <;> cases hf⟩ (elt_gt rfl rfl) (pe_md0 Md_Tape_word (pv 0) (hr.mono (by decide)) pE))) (pss_one (ps_rz Xc_BadTape rfl tE (by rfl))) pss_nil)
      (pss_cons (ps_set (i := 1) sc_told_tape.nd rfl (by first | exact Or.inl rfl | exact Or.inr rfl) (pe_m1 PySem.F.slot_str_join PySem.F.type_str_join (mt_joinK K rfl) pe_str (pe_lc (own := [("sign", 3)]) rfl sc_told_tape.nd (pi_or (pi_tupK K rfl (pe_revK K rfl (pe_fldK K rfl (pv 0) rfl))) (pi_listK K rfl (pe_revK K rfl (pe_fldK K rfl (pv 0) rfl)))) (blkOk_by (N := N_told_tape) (sc := defScope s_told_tape) (by decide +kernel)) (fun _ _ _ _ _ => (pg_name (i := 3) sc_told_tape.nd rfl (by first | exact Or.inl rfl | exact Or.inr rfl))) (fun _ _ _ _ _ => pts_nil) (fun _ _ _ _ _ => (pe_callTy call_strX (by rfl) T.str (by decide +kernel) (pa_cons (pv 3) pa_nil))))))
      (pss_cons (ps_set (i := 2) sc_told_tape.nd rfl (by first | exact Or.inl rfl | exact Or.inr rfl) (pe_m1 PySem.F.slot_str_join PySem.F.type_str_join (mt_joinK K rfl) pe_str (pe_lc (own := [("sign", 3)]) rfl sc_told_tape.nd (pi_or (pi_tupK K rfl (pe_fldK K rfl (pv 0) rfl)) (pi_listK K rfl (pe_fldK K rfl (pv 0) rfl))) (blkOk_by (N := N_told_tape) (sc := defScope s_told_tape) (by decide +kernel)) (fun _ _ _ _ _ => (pg_name (i := 3) sc_told_tape.nd rfl (by first | exact Or.inl rfl | exact Or.inr rfl))) (fun _ _ _ _ _ => pts_nil) (fun _ _ _ _ _ => (pe_callTy call_strX (by rfl) T.str (by decide +kernel) (pa_cons (pv 3) pa_nil))))))
      (pss_one (ps_ret (pe_joined (.cons (pe_fmt (pv 1)) (.cons pe_str (.cons (pe_fmt (pe_fldK K rfl (pv 0) rfl)) (.cons pe_str (.cons (pe_fmt (pv 2)) .nil))))))))))), ?_⟩
  try simp only [cxOf_K]
  rintro ds Φ Ψ ⟨t, rfl, ok, gd, q, qx⟩
  obtain ⟨ccl, cll, clh, clr⟩ := cc
  clear hr tE pE
  walk_at "nl"
  refine s_ifP (¬ ∀ x ∈ t.word, x ≤ 9) ?_ (fun h => s_raise (qx h)) fun h => ?_
  · walk_at "nl"
    refine w_anyI hPt hPl hTg ?_
    walk_at "nl"
    refine ⟨t, rfl, ok, ?_⟩
    refine ⟨_, rfl, ?_⟩
    walk_at "nl"
    simp
  · have h9 : ∀ x ∈ t.word, x ≤ 9 := Classical.not_not.mp h
    have q := q h9
    have sgn : ∀ x ∈ t.word, 0 ≤ x ∧ x ≤ 9 := fun x hx => by
      refine ⟨gd.n x ?_, h9 x hx⟩
      unfold Tp.word at hx
      simpa using hx
    have ol := ok.1
    have orr := ok.2
    walk_at "nl"
    refine w_lcM rfl (tgt_name (by simp)) dStr (ix_l (i_tup ?_))
    walk_at "nl"
    rw [dI_rev]
    refine ⟨small (by rw [dI_len, List.length_reverse]; omega), fun i d ed => ?_, _, congrArg Dt.lst (dStr_map _), ?_, ?_⟩
    · obtain ⟨x, ex, rfl⟩ := dI_at ed
      have hx := sgn x (by have := List.mem_of_getElem? ex; unfold Tp.word; simp at this ⊢; exact .inl this)
      walk_at "nl"
      refine rc_strI (log_small hx.1 (by omega)) ?_
      walk_at "nl"
      rfl
    · rw [figs_sum _ fun x hx => sgn x (by unfold Tp.word; simp at hx ⊢; exact .inl hx)]
      rw [show (Str.ofString "").length = 0 from rfl, Nat.mul_zero, List.length_reverse]
      omega
    · walk_at "nl"
      refine w_lcM rfl (tgt_name (by simp)) dStr (ix_l (i_tup ?_))
      walk_at "nl"
      refine ⟨small (by rw [dI_len]; omega), fun i d ed => ?_, _, congrArg Dt.lst (dStr_map _), ?_, ?_⟩
      · obtain ⟨x, ex, rfl⟩ := dI_at ed
        have hx := sgn x (by have := List.mem_of_getElem? ex; unfold Tp.word; simp at this ⊢; exact .inr (.inr this))
        walk_at "nl"
        refine rc_strI (log_small hx.1 (by omega)) ?_
        walk_at "nl"
        rfl
      · rw [figs_sum _ fun x hx => sgn x (by unfold Tp.word; simp at hx ⊢; exact .inr (.inr hx))]
        rw [show (Str.ofString "").length = 0 from rfl, Nat.mul_zero]
        omega
      · have l1 : (figs t.l.reverse).length = t.l.length := by
          unfold figs
          rw [len_join rfl, figs_sum _ fun x hx => sgn x (by unfold Tp.word; simp at hx ⊢; exact .inl hx), List.length_reverse]
        have l2 : (figs t.r).length = t.r.length := by
          unfold figs
          rw [len_join rfl, figs_sum _ fun x hx => sgn x (by unfold Tp.word; simp at hx ⊢; exact .inr (.inr hx))]
        have hh := sgn t.h (by unfold Tp.word; simp)
        have l3 := fig_len hh.1 hh.2
        rw [show Txt.join (Str.ofString "") (List.map (fun i => Str.ofString (toString i)) t.r) = figs t.r from rfl, show Txt.join (Str.ofString "") (List.map (fun i => Str.ofString (toString i)) t.l.reverse) = figs t.l.reverse from rfl]
        have e0 : Str.empty.length = 0 := rfl
        have e1 : (Str.ofString "[").length = 1 := rfl
        have e2 : (Str.ofString "]").length = 1 := rfl
        walk_at "nl"
        refine w_fmtS ?_
        walk_at "nl"
        refine ⟨small (by omega), _, rfl, small (by simp only [len_app]; omega), ?_⟩
        walk_at "nl"
        refine ⟨small (by simp only [len_app]; omega), ?_⟩
        walk_at "n1"
        refine w_fmtI ?_
        walk_at "nl"
        refine ⟨log_small hh.1 (by omega), _, rfl, small (by simp only [len_app]; omega), ?_⟩
        walk_at "nl"
        refine ⟨small (by simp only [len_app]; omega), ?_⟩
        walk_at "n1"
        refine w_fmtS ?_
        walk_at "nl"
        refine ⟨small (by omega), _, rfl, small (by simp only [len_app]; omega), ?_⟩
        walk_at "nl"
        rw [Str.empty_append]
        exact q

end
end TW
namespace TW
open PySem L2 Evl DL
local macro_rules | `(tactic| walk_at "d1") => `(tactic| with_reducible first
  | refine s_seq ?_
  | refine iteT ?_
  | refine iteF ?_
  | refine s_asg ?_
  | refine g_nm rfl rfl ?_
  | refine s_if ?_
  | refine s_ret ?_
  | refine s_next ?_
  | refine s_retN ?_
  | refine s_drop ?_
  | refine s_brk ?_
  | refine s_cont ?_
  | refine s_aug1 rfl rfl ?_
  | refine s_fldO ?_
  | refine Exists.intro _ (Exists.intro _ (Exists.intro _ (And.intro rfl (And.intro (by assumption) (And.intro (by assumption) (And.intro (by decide) ?_))))))
  | refine w_var rfl ?_
  | refine w_int ?_
  | refine w_str ?_
  | refine w_bl ?_
  | refine w_non ?_
  | refine t_cmp ?_
  | refine rd_ixO rfl rfl ?_
  | refine w_op ?_
  | refine w_un ?_
  | refine w_chain ?_
  | refine t_test ?_
  | refine t_B ?_
  | refine t_not ?_
  | refine t_and ?_
  | refine t_or ?_
  | refine w_andV ?_
  | refine w_orV ?_
  | refine w_notV ?_
  | refine w_if ?_
  | refine w_tup ?_
  | refine w_lst ?_
  | refine w_isiInt ?_
  | refine w_rev ?_
  | refine w_cb ?_
  | refine w_sl ?_
  | refine w_join ?_
  | refine t_yes ?_
  | refine w_m1 ?_
  | refine rj_find ?_
  | refine rj_count ?_
  | refine w_joined ?_
  | refine a_nil ?_
  | refine a_cons ?_
  | refine o_none ?_
  | refine o_some ?_
  | refine g_tup rfl ?_
  | refine g_setO rfl rfl ?_
  | refine gs_nil ?_
  | refine gs_cons ?_
  | refine j_nil ?_
  | refine j_cons ?_
  | refine rd_lt ?_
  | refine rd_le ?_
  | refine rd_gt ?_
  | refine rd_ge ?_
  | refine rd_sub ?_
  | refine rd_mod (by first | decide | assumption) ?_
  | refine rd_div (by first | decide | (constructor <;> omega)) ?_
  | refine rd_mulR (by decide) ?_
  | refine rd_powC (by decide) ?_
  | refine rd_addI ?_
  | refine rd_eqI ?_
  | refine rd_neI ?_
  | refine rd_eqS ?_
  | refine rd_neS ?_
  | refine rd_eqB ?_
  | refine rd_neB ?_
  | refine rd_ipa ?_
  | refine rd_ips ?_
  | refine ru_neg ?_
  | refine rx_lenT ?_
  | refine rx_lenL ?_
  | refine rx_abs ?_
  | refine rc_intI ?_
  | refine rc_intB ?_
  | refine rc_tupT ?_
  | refine rc_tupL ?_
  | refine rc_tupR ?_
  | refine rs_tup ?_
  | refine rs_lst ?_
  | refine w_fldO rfl (by assumption) (by assumption) rfl ?_
  | refine w_fldV rfl (by assumption) (by assumption) rfl ?_
  | refine w_fld ?_
  | refine Exists.intro _ (And.intro rfl ?_)
  | refine Exists.intro _ (Exists.intro _ (Exists.intro _ (Exists.intro _ (And.intro rfl (And.intro (by assumption) (And.intro (by assumption) (And.intro (by rfl) ?_)))))))
  | refine w_callI (dds := []) (fun _ => .nil) (Exists.intro _ rfl) ?_
  | refine w_callI0 (dds := []) (fun _ => .nil) (Exists.intro _ rfl) ?_
  | refine w_call (dds := []) (fun _ => .nil) ?_
  | refine w_call0 (dds := []) (fun _ => .nil) ?_
  | refine w_make (dds := []) (fun _ => .nil) ?_
  | refine w_make0 (dds := []) (fun _ => .nil) ?_
  | refine w_meth (dds := []) (fun _ => .nil) ?_
  | refine w_meth0 (dds := []) (fun _ => .nil) ?_
  | refine And.intro (small (by simp only [List.length_cons, List.length_nil]; omega)) ?_
  | refine Exists.intro _ (Exists.intro _ (And.intro rfl (And.intro (by decide) ?_)))
  | refine Or.inl (Exists.intro _ (And.intro rfl ?_))
  | refine Or.inr (Exists.intro _ (And.intro rfl ?_))
  | refine And.intro rfl ?_)
local macro_rules | `(tactic| walk_at "dl") => `(tactic| repeat (first | walk_at "d1" | (dsimp only [onx, rets, lpe, rets1, List.cons_append, List.nil_append])))

local macro_rules | `(tactic| walk_at "n1") => `(tactic| with_reducible first
  | refine s_seq ?_
  | refine iteT ?_
  | refine iteF ?_
  | refine s_asg ?_
  | refine g_nm rfl rfl ?_
  | refine s_ret ?_
  | refine s_next ?_
  | refine s_retN ?_
  | refine s_drop ?_
  | refine s_brk ?_
  | refine s_cont ?_
  | refine s_aug1 rfl rfl ?_
  | refine s_fldO ?_
  | refine Exists.intro _ (Exists.intro _ (Exists.intro _ (And.intro rfl (And.intro (by assumption) (And.intro (by assumption) (And.intro (by decide) ?_))))))
  | refine w_var rfl ?_
  | refine w_int ?_
  | refine w_str ?_
  | refine w_bl ?_
  | refine w_non ?_
  | refine t_cmp ?_
  | refine rd_ixO rfl rfl ?_
  | refine w_op ?_
  | refine w_un ?_
  | refine w_chain ?_
  | refine t_test ?_
  | refine t_B ?_
  | refine t_not ?_
  | refine t_and ?_
  | refine t_or ?_
  | refine w_andV ?_
  | refine w_orV ?_
  | refine w_notV ?_
  | refine w_tup ?_
  | refine w_lst ?_
  | refine w_isiInt ?_
  | refine w_rev ?_
  | refine w_cb ?_
  | refine w_sl ?_
  | refine w_join ?_
  | refine t_yes ?_
  | refine w_m1 ?_
  | refine rj_find ?_
  | refine rj_count ?_
  | refine w_joined ?_
  | refine a_nil ?_
  | refine a_cons ?_
  | refine o_none ?_
  | refine o_some ?_
  | refine g_tup rfl ?_
  | refine g_setO rfl rfl ?_
  | refine gs_nil ?_
  | refine gs_cons ?_
  | refine j_nil ?_
  | refine j_cons ?_
  | refine rd_lt ?_
  | refine rd_le ?_
  | refine rd_gt ?_
  | refine rd_ge ?_
  | refine rd_sub ?_
  | refine rd_mod (by first | decide | assumption) ?_
  | refine rd_div (by first | decide | (constructor <;> omega)) ?_
  | refine rd_mulR (by decide) ?_
  | refine rd_powC (by decide) ?_
  | refine rd_addI ?_
  | refine rd_eqI ?_
  | refine rd_neI ?_
  | refine rd_eqS ?_
  | refine rd_neS ?_
  | refine rd_eqB ?_
  | refine rd_neB ?_
  | refine rd_ipa ?_
  | refine rd_ips ?_
  | refine ru_neg ?_
  | refine rx_lenT ?_
  | refine rx_lenL ?_
  | refine rx_abs ?_
  | refine rc_intI ?_
  | refine rc_intB ?_
  | refine rc_tupT ?_
  | refine rc_tupL ?_
  | refine rc_tupR ?_
  | refine rs_tup ?_
  | refine rs_lst ?_
  | refine w_fldO rfl (by assumption) (by assumption) rfl ?_
  | refine w_fldV rfl (by assumption) (by assumption) rfl ?_
  | refine w_fld ?_
  | refine Exists.intro _ (And.intro rfl ?_)
  | refine Exists.intro _ (Exists.intro _ (Exists.intro _ (Exists.intro _ (And.intro rfl (And.intro (by assumption) (And.intro (by assumption) (And.intro (by rfl) ?_)))))))
  | refine w_callI (dds := []) (fun _ => .nil) (Exists.intro _ rfl) ?_
  | refine w_callI0 (dds := []) (fun _ => .nil) (Exists.intro _ rfl) ?_
  | refine w_call (dds := []) (fun _ => .nil) ?_
  | refine w_call0 (dds := []) (fun _ => .nil) ?_
  | refine w_make (dds := []) (fun _ => .nil) ?_
  | refine w_make0 (dds := []) (fun _ => .nil) ?_
  | refine w_meth (dds := []) (fun _ => .nil) ?_
  | refine w_meth0 (dds := []) (fun _ => .nil) ?_
  | refine And.intro (small (by simp only [List.length_cons, List.length_nil]; omega)) ?_
  | refine Exists.intro _ (Exists.intro _ (And.intro rfl (And.intro (by decide) ?_)))
  | refine Or.inl (Exists.intro _ (And.intro rfl ?_))
  | refine Or.inr (Exists.intro _ (And.intro rfl ?_))
  | refine And.intro rfl ?_)
local macro_rules | `(tactic| walk_at "nl") => `(tactic| repeat (first | walk_at "n1" | (dsimp only [onx, rets, lpe, rets1, List.cons_append, List.nil_append])))

open TL
def nI (L : List Nat) : List Int := L.map fun (n : Nat) => (n : Int)
/-- the text of a tape: figures, one in brackets -/
structure RT (s : Str) (l : List Nat) (c : Nat) (r : List Nat) : Prop where
  e : tl s = l.map (48 + ·) ++ 91 :: (48 + c) :: 93 :: r.map (48 + ·)
  l : ∀ x ∈ l, x < 10
  c : c < 10
  r : ∀ x ∈ r, x < 10
def pm_signs_in : Pm := fun ds Φ _ => ∃ (s : Str) (L : List Nat), ds = [.str s] ∧ tl s = L.map (48 + ·) ∧ (∀ x ∈ L, x < 10) ∧ L.length ≤ 5000 ∧ Φ (.tup (dI (nI L)))
def pm_read_tape (C X : Addr) : Pm := fun ds Φ Ψ => ∃ (s : Str), ds = [.str s] ∧ s.length ≤ 5000 ∧ (∀ l c r, RT s l c r → Φ ((Tp.mk' (nI l).reverse c (nI r)).d C)) ∧ ((∀ l c r, ¬ RT s l c r) → Ψ X)
def dInt : Dt → Dt
  | .str s => .int ((PySem.intText? s).getD 0)
  | d => d
theorem dInt_map {s : Str} {L : List Nat} (e : tl s = L.map (48 + ·)) (h : ∀ x ∈ L, x < 10) : (signsD s).map dInt = dI (nI L) := by
  have e' : s.cps.toList = L.map (48 + ·) := e
  unfold signsD dI nI
  rw [e', List.map_map, List.map_map, List.map_map]
  refine List.map_congr_left fun x hx => ?_
  show Dt.int ((PySem.intText? ⟨#[48 + x]⟩).getD 0) = .int x
  rw [fig_read (h x hx)]
  rfl
theorem first_split {k : Nat} : ∀ {L : List Nat}, k ∈ L → ∃ a b, L = a ++ k :: b ∧ k ∉ a
  | x :: r, h => by
    by_cases e : x = k
    · exact ⟨[], r, by rw [e]; rfl, by simp⟩
    · rcases List.mem_cons.mp h with q | q
      · exact (e q.symm).elim
      · obtain ⟨a, b, h1, h2⟩ := first_split q
        exact ⟨x :: a, b, by rw [h1]; rfl, by simp [Ne.symm e, h2]⟩
theorem part_cases (s y : Str) {k : Nat} (ey : tl y = [k]) : (∃ a b : Str, tl s = tl a ++ k :: tl b ∧ k ∉ tl a ∧ Txt.partition s y = (a, y, b)) ∨ (k ∉ tl s ∧ Txt.partition s y = (s, Str.empty, Str.empty)) := by
  by_cases h : k ∈ tl s
  · obtain ⟨a, b, h1, h2⟩ := first_split h
    refine .inl ⟨⟨a.toArray⟩, ⟨b.toArray⟩, h1, h2, ?_⟩
    have e : s = ⟨a.toArray⟩ ++ y ++ ⟨b.toArray⟩ := ext_tl (by rw [tl_append, tl_append, ey, h1]; show _ = a ++ [k] ++ b; simp)
    conv => lhs; rw [e]
    exact partition_app ey (a := ⟨a.toArray⟩) (b := ⟨b.toArray⟩) h2
  · exact .inr ⟨h, partition_none ey h⟩
theorem part_hit {s y a b : Str} {k : Nat} (ey : tl y = [k]) (h : tl s = tl a ++ k :: tl b) (hk : k ∉ tl a) : Txt.partition s y = (a, y, b) := by
  have e : s = a ++ y ++ b := ext_tl (by rw [tl_append, tl_append, ey, h]; simp)
  rw [e]
  exact partition_app ey hk
theorem part_len (s y : Str) {k : Nat} (ey : tl y = [k]) : (Txt.partition s y).1.length ≤ s.length ∧ (Txt.partition s y).2.1.length ≤ 1 ∧ (Txt.partition s y).2.2.length ≤ s.length := by
  rcases part_cases s y ey with ⟨a, b, h1, h2, e⟩ | ⟨h1, e⟩
  · rw [e]
    have h3 := congrArg List.length h1
    simp only [List.length_append, List.length_cons] at h3
    rw [len_tl s, len_tl a, len_tl b, len_tl y, ey]
    refine ⟨by omega, Nat.le_refl _, by omega⟩
  · rw [e]
    exact ⟨Nat.le_refl _, Nat.zero_le 1, Nat.zero_le _⟩
abbrev FIG : Str := Str.ofString "0123456789"
theorem tl_FIG : tl FIG = [48, 49, 50, 51, 52, 53, 54, 55, 56, 57] := by decide +kernel
theorem fig_iff (c : Nat) : c ∈ tl FIG ↔ 48 ≤ c ∧ c ≤ 57 := by
  rw [tl_FIG]
  simp only [List.mem_cons, List.not_mem_nil, or_false]
  omega
theorem figs_list : ∀ {l : List Nat}, (∀ c ∈ l, c ∈ tl FIG) → ∃ L : List Nat, l = L.map (48 + ·) ∧ ∀ x ∈ L, x < 10
  | [], _ => ⟨[], rfl, by simp⟩
  | c :: r, h => by
    obtain ⟨L, h1, h2⟩ := figs_list (l := r) fun x hx => h x (List.mem_cons_of_mem _ hx)
    have h3 := (fig_iff c).mp (h c (by simp))
    refine ⟨(c - 48) :: L, ?_, fun x hx => ?_⟩
    · rw [List.map_cons, ← h1, show 48 + (c - 48) = c by omega]
    · rcases List.mem_cons.mp hx with e | e
      · omega
      · exact h2 x e
/-- what the reading refuses -/
def Bad (s : Str) : Prop := let p := Txt.partition s "["; let q := Txt.partition p.2.2 "]"; p.2.1 = Str.empty ∨ q.2.1 = Str.empty ∨ q.1.length ≠ 1 ∨ Txt.stripChars (p.1 ++ q.1 ++ q.2.2) FIG ≠ Str.empty
theorem bad_no {s : Str} {l : List Nat} {c : Nat} {r : List Nat} (h : RT s l c r) : ¬ Bad s := by
  have hn : ∀ {k : Nat} {L : List Nat}, (k < 48 ∨ 57 < k) → (∀ x ∈ L, x < 10) → k ∉ L.map (48 + ·) := fun {k L} hk hL hm => by
    obtain ⟨x, hx, e⟩ := List.mem_map.mp hm
    have := hL x hx
    omega
  have e1 : Txt.partition s "[" = ((⟨(l.map (48 + ·)).toArray⟩ : Str), ("[" : Str), (⟨((48 + c) :: 93 :: r.map (48 + ·)).toArray⟩ : Str)) := part_hit (k := 91) rfl h.e (hn (by omega) h.l)
  have e2 : Txt.partition ⟨((48 + c) :: 93 :: r.map (48 + ·)).toArray⟩ "]" = ((⟨#[48 + c]⟩ : Str), ("]" : Str), (⟨(r.map (48 + ·)).toArray⟩ : Str)) := part_hit (k := 93) rfl rfl (by
    have := h.c
    show 93 ∉ [48 + c]
    simp
    omega)
  unfold Bad
  rw [e1]
  dsimp only
  rw [e2]
  dsimp only
  rintro (e | e | e | e)
  · cases e
  · cases e
  · exact e rfl
  · refine e ((strip_nil _ _).mpr fun x hx => ?_)
    rw [tl_append, tl_append] at hx
    have hx : x ∈ l.map (48 + ·) ++ [48 + c] ++ r.map (48 + ·) := hx
    rw [fig_iff]
    simp only [List.mem_append, List.mem_map, List.mem_singleton] at hx
    rcases hx with (⟨y, hy, rfl⟩ | rfl) | ⟨y, hy, rfl⟩
    · have := h.l y hy; omega
    · have := h.c; omega
    · have := h.r y hy; omega
theorem bad_rt {s : Str} (h : ¬ Bad s) : ∃ l c r, RT s l c r ∧ tl (Txt.partition s "[").1 = l.map (48 + ·) ∧ (Txt.partition (Txt.partition s "[").2.2 "]").1 = ⟨#[48 + c]⟩ ∧ tl (Txt.partition (Txt.partition s "[").2.2 "]").2.2 = r.map (48 + ·) := by
  unfold Bad at h
  dsimp only at h
  rcases part_cases s "[" (k := 91) rfl with ⟨a, b, h1, h2, e1⟩ | ⟨h1, e1⟩
  · rw [e1] at h ⊢
    dsimp only at h ⊢
    rcases part_cases b "]" (k := 93) rfl with ⟨m, n, h3, h4, e2⟩ | ⟨h3, e2⟩
    · rw [e2] at h ⊢
      dsimp only at h ⊢
      simp only [not_or, ne_eq, Classical.not_not] at h
      obtain ⟨_, _, h5, h6⟩ := h
      have h7 := (strip_nil _ _).mp h6
      rw [tl_append, tl_append] at h7
      obtain ⟨l, el, hl⟩ := figs_list (l := tl a) fun c hc => h7 c (by simp [hc])
      obtain ⟨r, er, hr⟩ := figs_list (l := tl n) fun c hc => h7 c (by simp [hc])
      rw [len_tl] at h5
      match hm : tl m, h5 with
      | [c], _ =>
        have hc := (fig_iff c).mp (h7 c (by simp [hm]))
        refine ⟨l, c - 48, r, ⟨?_, hl, by omega, hr⟩, el, ?_, er⟩
        · rw [h1, h3, hm, el, er, show 48 + (c - 48) = c by omega]
          try rfl
        · apply ext_tl
          rw [hm, show 48 + (c - 48) = c by omega]
    · rw [e2] at h
      exact (h (.inr (.inl rfl))).elim
  · rw [e1] at h
    exact (h (.inl rfl)).elim
section
variable {P : Program} {w : World} {K : PySem.W.Frag} {Tb : TbT} {mg : Str → Option Value} {base : Heap}
abbrev s_signs_in : Stmt := top 19
abbrev N_signs_in : List Str := ["figures", "figure"]
abbrev P_signs_in : List Str := ["figures"]
theorem sc_signs_in : FnScope N_signs_in P_signs_in (defScope s_signs_in) := ⟨rfl, rfl, rfl, by decide +kernel, rfl, by decide +kernel, by decide +kernel⟩
theorem ok_signs_in {f : Addr} {fd : FuncData} {dvs : List V} (T : Tx K mg) (F : FunD K "signs_in" "signs_in" (defArgs s_signs_in) (defBody s_signs_in) (defScope s_signs_in) dvs [] f fd) : FnOk P w K mg base (L2.CX P w) 1 f fd P_signs_in (spD K Tb pm_signs_in) := by
  refine fnd_D F sc_signs_in (fun ds Φ Ψ h => by obtain ⟨s, L, rfl, _⟩ := h; rfl) fun cdv A outer s H E hr => ?_
  have tE : Takes (cxOf (L2.CX P w) P w K mg base N_signs_in "signs_in" (defScope s_signs_in) f cdv A outer s H E) (fun cls d _ H => E cls d H) := takes_of rfl rfl rfl rfl
  have pE : Passes (L2.CX P w) (cxOf (L2.CX P w) P w K mg base N_signs_in "signs_in" (defScope s_signs_in) f cdv A outer s H E) E := passes_call tE fun _ _ _ _ h => h
  refine ⟨_, (pss_one (ps_ret (pe_callTy (call_tupK K rfl) (by rfl) T.tuple (by decide +kernel) (pa_cons (pe_lc (own := [("figure", 1)]) rfl sc_signs_in.nd (pi_str (pv 0)) (blkOk_by (N := N_signs_in) (sc := defScope s_signs_in) (by decide +kernel)) (fun _ _ _ _ _ => (pg_name (i := 1) sc_signs_in.nd rfl (by first | exact Or.inl rfl | exact Or.inr rfl))) (fun _ _ _ _ _ => pts_nil) (fun _ _ _ _ _ => (pe_callTy call_intX (by rfl) T.int (by decide +kernel) (pa_cons (pv 1) pa_nil)))) pa_nil)))), ?_⟩
  try simp only [cxOf_K]
  rintro ds Φ Ψ ⟨s, L, rfl, es, hL, hl, q⟩
  clear hr tE pE
  walk_at "nl"
  refine w_lcM rfl (tgt_name (by simp)) dInt (i_str ?_)
  walk_at "nl"
  have ls : (signsD s).length ≤ 5000 := by rw [signsD_len, len_tl, es, List.length_map]; exact hl
  refine ⟨small (by omega), fun i d ed => ?_, ?_⟩
  · obtain ⟨x, hx, rfl⟩ : ∃ x ∈ L, d = .str ⟨#[48 + x]⟩ := by
      have e' : s.cps.toList = L.map (48 + ·) := es
      unfold signsD at ed
      rw [e', List.map_map] at ed
      obtain ⟨x, hx, e⟩ := List.mem_map.mp (List.mem_of_getElem? ed)
      exact ⟨x, hx, e.symm⟩
    walk_at "nl"
    refine rc_intS (fig_read (hL x hx)) (by show 1 ≤ 640; decide) ?_
    walk_at "nl"
    refine ⟨?_, rfl⟩
    show Dt.int (x : Int) = .int ((PySem.intText? ⟨#[48 + x]⟩).getD 0)
    rw [fig_read (hL x hx)]
    rfl
  · rw [dInt_map es hL]
    walk_at "nl"
    exact q

abbrev s_read_tape : Stmt := top 18
abbrev N_read_tape : List Str := ["text", "left", "bracket", "rest", "here", "end", "right"]
abbrev P_read_tape : List Str := ["text"]
theorem sc_read_tape : FnScope N_read_tape P_read_tape (defScope s_read_tape) := ⟨rfl, rfl, rfl, by decide +kernel, rfl, by decide +kernel, by decide +kernel⟩
theorem ok_read_tape {f : Addr} {fd : FuncData} {dvs : List V} {C X : Addr} {d1 d3 : V} (T : Tx K mg) (cc : TC K C) (Xc_BadTape : Xc K mg "BadTape" X) (Cd_Tape : Cd P w K mg base C "Tape" P_Tape_init [d1, .int 0, d3] 2 (spI K Tb (pm_Tape_init C X))) (Fd_signs_in : Fd P w K mg base "signs_in" P_signs_in [] 1 (spD K Tb pm_signs_in)) {tk : Tok} (c_FIGURES : mg "FIGURES" = some (.str "0123456789" tk)) (F : FunD K "read_tape" "read_tape" (defArgs s_read_tape) (defBody s_read_tape) (defScope s_read_tape) dvs [] f fd) : FnOk P w K mg base (L2.CX P w) 4 f fd P_read_tape (spD K Tb (pm_read_tape C X)) := by
  refine fnd_D F sc_read_tape (fun ds Φ Ψ h => by obtain ⟨s, rfl, _⟩ := h; rfl) fun cdv A outer s H E hr => ?_
  have tE : Takes (cxOf (L2.CX P w) P w K mg base N_read_tape "read_tape" (defScope s_read_tape) f cdv A outer s H E) (fun cls d _ H => E cls d H) := takes_of rfl rfl rfl rfl
  have pE : Passes (L2.CX P w) (cxOf (L2.CX P w) P w K mg base N_read_tape "read_tape" (defScope s_read_tape) f cdv A outer s H E) E := passes_call tE fun _ _ _ _ h => h
  refine ⟨_, (pss_cons (ps_asg (pe_m1 PySem.F.slot_str_partition PySem.F.type_str_partition mt_partX (pv 0) pe_str) (pg_tupK (n := 3) K rfl rfl (pgs_cons (pg_name (i := 1) sc_read_tape.nd rfl (by first | exact Or.inl rfl | exact Or.inr rfl)) (pgs_cons (pg_name (i := 2) sc_read_tape.nd rfl (by first | exact Or.inl rfl | exact Or.inr rfl)) (pgs_cons (pg_name (i := 3) sc_read_tape.nd rfl (by first | exact Or.inl rfl | exact Or.inr rfl)) pgs_nil)))))
      (pss_cons (ps_asg (pe_m1 PySem.F.slot_str_partition PySem.F.type_str_partition mt_partX (pv 3) pe_str) (pg_tupK (n := 3) K rfl rfl (pgs_cons (pg_name (i := 4) sc_read_tape.nd rfl (by first | exact Or.inl rfl | exact Or.inr rfl)) (pgs_cons (pg_name (i := 5) sc_read_tape.nd rfl (by first | exact Or.inl rfl | exact Or.inr rfl)) (pgs_cons (pg_name (i := 6) sc_read_tape.nd rfl (by first | exact Or.inl rfl | exact Or.inr rfl)) pgs_nil)))))
      (pss_cons (ps_if (PW.pt (pw_or (pt_cmpR (op_eqK K rfl hr.units) (pv 2) pe_str (nomark _)) (pw_or (pt_cmpR (op_eqK K rfl hr.units) (pv 5) pe_str (nomark _)) (pw_or (pt_cmpR (op_neK K rfl hr.units) (pe_callB (call_lenK K rfl) (by rfl) T.len (by decide +kernel) (pa_cons (pv 4) pa_nil)) pe_int (nomark _)) (pw_or1 (pt_cmpR (op_neK K rfl hr.units) (pe_m1 PySem.F.slot_str_strip PySem.F.type_str_strip mt_stripX (pe_op (op_addK K rfl) (pe_op (op_addK K rfl) (pv 1) (pv 4)) (pv 6)) (pe_glob (v := .str "0123456789") (by rfl) c_FIGURES ⟨_, rfl⟩)) pe_str (nomark _))))))) (pss_one (ps_rz Xc_BadTape rfl tE (by rfl))) pss_nil)
      (pss_one (ps_ret (pe_cd 3 Cd_Tape (by first | decide | simp) (hr.mono (by decide)) (by rfl) pE (pa_cons (pe_revK K rfl (pe_fn 0 Fd_signs_in (by first | decide | simp) (hr.mono (by decide)) (by rfl) pE (pa_cons (pv 1) pa_nil))) (pa_cons (pe_callTy call_intX (by rfl) T.int (by decide +kernel) (pa_cons (pv 4) pa_nil)) (pa_cons (pe_fn 0 Fd_signs_in (by first | decide | simp) (hr.mono (by decide)) (by rfl) pE (pa_cons (pv 6) pa_nil)) pa_nil))))))))), ?_⟩
  try simp only [cxOf_K]
  rintro ds Φ Ψ ⟨s, rfl, hl, q, qx⟩
  obtain ⟨ccl, cll, clh, clr⟩ := cc
  clear hr tE pE
  walk_at "nl"
  refine rj_part rfl (small (by omega)) ?_
  walk_at "nl"
  obtain ⟨l1, l2, l3⟩ := part_len s "[" (k := 91) rfl
  refine rj_part rfl (small (by omega)) ?_
  obtain ⟨l4, l5, l6⟩ := part_len (Txt.partition s "[").2.2 "]" (k := 93) rfl
  walk_at "nl"
  refine s_ifP (Bad s) ?_ (fun h => s_raise (qx fun l c r z => bad_no z h)) fun h => ?_
  · have mk : ∀ {A : Prop}, A → (true = true ↔ A) := fun h => ⟨fun _ => h, fun _ => rfl⟩
    walk_at "nl"
    refine ite_dec (fun h1 => ?_) fun h1 => ?_
    · walk_at "nl"
      exact mk (.inl h1)
    walk_at "nl"
    refine ite_dec (fun h2 => ?_) fun h2 => ?_
    · walk_at "nl"
      exact mk (.inr (.inl h2))
    walk_at "nl"
    refine rx_lenS (small (by omega)) ?_
    walk_at "nl"
    refine ite_ndec (fun h3 => ?_) fun h3 => ?_
    · walk_at "nl"
      refine mk (.inr (.inr (.inl fun e => h3 ?_)))
      rw [e]; rfl
    walk_at "nl"
    refine rd_addS (small (by omega)) ?_
    walk_at "nl"
    refine rd_addS (small (by rw [len_app]; omega)) ?_
    walk_at "nl"
    refine rj_strip (small (by rw [len_app, len_app]; omega)) ?_
    walk_at "nl"
    refine ⟨fun z => ?_, fun z => ?_⟩
    · rw [Bool.not_eq_true', decide_eq_false_iff_not] at z
      exact .inr (.inr (.inr z))
    · rw [Bool.not_eq_true', decide_eq_false_iff_not]
      rcases z with z | z | z | z
      · exact (h1 z).elim
      · exact (h2 z).elim
      · exact (z (by omega)).elim
      · exact z
  · obtain ⟨l, c, r, rt, e1, e2, e3⟩ := bad_rt h
    have q := q l c r rt
    walk_at "nl"
    refine ⟨_, l, rfl, e1, rt.l, ?_, ?_⟩
    · have := congrArg List.length e1
      rw [List.length_map, ← len_tl] at this
      omega
    walk_at "nl"
    rw [e2]
    refine rc_intS (fig_read rt.c) (by show 1 ≤ 640; decide) ?_
    walk_at "nl"
    refine ⟨_, r, rfl, e3, rt.r, ?_, ?_⟩
    · have := congrArg List.length e3
      rw [List.length_map, ← len_tl] at this
      omega
    walk_at "nl"
    have hn : ∀ L : List Nat, Nn (nI L) := fun L x hx => by
      unfold nI at hx
      obtain ⟨y, _, rfl⟩ := List.mem_map.mp hx
      exact Int.natCast_nonneg y
    have h1 := congrArg List.length e1
    have h2 := congrArg List.length e3
    rw [List.length_map, ← len_tl] at h1 h2
    rw [dI_rev]
    refine use_T (by rw [List.length_reverse]; unfold nI; rw [List.length_map]; omega) (by unfold nI; rw [List.length_map]; omega) (nn_mk (fun x hx => hn l x (List.mem_reverse.mp hx)) (Int.natCast_nonneg c) (hn r)) ⟨rfl, _, _, rfl, q⟩

end
end TW
namespace TW
open PySem L2 Evl DL
local macro_rules | `(tactic| walk_at "d1") => `(tactic| with_reducible first
  | refine s_seq ?_
  | refine iteT ?_
  | refine iteF ?_
  | refine s_asg ?_
  | refine g_nm rfl rfl ?_
  | refine s_if ?_
  | refine s_ret ?_
  | refine s_next ?_
  | refine s_retN ?_
  | refine s_drop ?_
  | refine s_brk ?_
  | refine s_cont ?_
  | refine s_aug1 rfl rfl ?_
  | refine s_fldO ?_
  | refine Exists.intro _ (Exists.intro _ (Exists.intro _ (And.intro rfl (And.intro (by assumption) (And.intro (by assumption) (And.intro (by decide) ?_))))))
  | refine w_var rfl ?_
  | refine w_int ?_
  | refine w_str ?_
  | refine w_bl ?_
  | refine w_non ?_
  | refine t_cmp ?_
  | refine rd_ixO rfl rfl ?_
  | refine w_op ?_
  | refine w_un ?_
  | refine w_chain ?_
  | refine t_test ?_
  | refine t_B ?_
  | refine t_not ?_
  | refine t_and ?_
  | refine t_or ?_
  | refine w_andV ?_
  | refine w_orV ?_
  | refine w_notV ?_
  | refine w_if ?_
  | refine w_tup ?_
  | refine w_lst ?_
  | refine w_isiInt ?_
  | refine w_rev ?_
  | refine w_cb ?_
  | refine w_sl ?_
  | refine w_join ?_
  | refine t_yes ?_
  | refine w_m1 ?_
  | refine rj_find ?_
  | refine rj_count ?_
  | refine w_joined ?_
  | refine a_nil ?_
  | refine a_cons ?_
  | refine o_none ?_
  | refine o_some ?_
  | refine g_tup rfl ?_
  | refine g_setO rfl rfl ?_
  | refine gs_nil ?_
  | refine gs_cons ?_
  | refine j_nil ?_
  | refine j_cons ?_
  | refine rd_lt ?_
  | refine rd_le ?_
  | refine rd_gt ?_
  | refine rd_ge ?_
  | refine rd_sub ?_
  | refine rd_mod (by first | decide | assumption) ?_
  | refine rd_div (by first | decide | (constructor <;> omega)) ?_
  | refine rd_mulR (by decide) ?_
  | refine rd_powC (by decide) ?_
  | refine rd_addI ?_
  | refine rd_eqI ?_
  | refine rd_neI ?_
  | refine rd_eqS ?_
  | refine rd_neS ?_
  | refine rd_eqB ?_
  | refine rd_neB ?_
  | refine rd_ipa ?_
  | refine rd_ips ?_
  | refine ru_neg ?_
  | refine rx_lenT ?_
  | refine rx_lenL ?_
  | refine rx_abs ?_
  | refine rc_intI ?_
  | refine rc_intB ?_
  | refine rc_tupT ?_
  | refine rc_tupL ?_
  | refine rc_tupR ?_
  | refine rs_tup ?_
  | refine rs_lst ?_
  | refine w_fldO rfl (by assumption) (by assumption) rfl ?_
  | refine w_fldV rfl (by assumption) (by assumption) rfl ?_
  | refine w_fld ?_
  | refine Exists.intro _ (And.intro rfl ?_)
  | refine Exists.intro _ (Exists.intro _ (Exists.intro _ (Exists.intro _ (And.intro rfl (And.intro (by assumption) (And.intro (by assumption) (And.intro (by rfl) ?_)))))))
  | refine w_callI (dds := []) (fun _ => .nil) (Exists.intro _ rfl) ?_
  | refine w_callI0 (dds := []) (fun _ => .nil) (Exists.intro _ rfl) ?_
  | refine w_call (dds := []) (fun _ => .nil) ?_
  | refine w_call0 (dds := []) (fun _ => .nil) ?_
  | refine w_make (dds := []) (fun _ => .nil) ?_
  | refine w_make0 (dds := []) (fun _ => .nil) ?_
  | refine w_meth (dds := []) (fun _ => .nil) ?_
  | refine w_meth0 (dds := []) (fun _ => .nil) ?_
  | refine And.intro (small (by simp only [List.length_cons, List.length_nil]; omega)) ?_
  | refine Exists.intro _ (Exists.intro _ (And.intro rfl (And.intro (by decide) ?_)))
  | refine Or.inl (Exists.intro _ (And.intro rfl ?_))
  | refine Or.inr (Exists.intro _ (And.intro rfl ?_))
  | refine And.intro rfl ?_)
local macro_rules | `(tactic| walk_at "dl") => `(tactic| repeat (first | walk_at "d1" | (dsimp only [onx, rets, lpe, rets1, List.cons_append, List.nil_append])))

local macro_rules | `(tactic| walk_at "n1") => `(tactic| with_reducible first
  | refine s_seq ?_
  | refine iteT ?_
  | refine iteF ?_
  | refine s_asg ?_
  | refine g_nm rfl rfl ?_
  | refine s_ret ?_
  | refine s_next ?_
  | refine s_retN ?_
  | refine s_drop ?_
  | refine s_brk ?_
  | refine s_cont ?_
  | refine s_aug1 rfl rfl ?_
  | refine s_fldO ?_
  | refine Exists.intro _ (Exists.intro _ (Exists.intro _ (And.intro rfl (And.intro (by assumption) (And.intro (by assumption) (And.intro (by decide) ?_))))))
  | refine w_var rfl ?_
  | refine w_int ?_
  | refine w_str ?_
  | refine w_bl ?_
  | refine w_non ?_
  | refine t_cmp ?_
  | refine rd_ixO rfl rfl ?_
  | refine w_op ?_
  | refine w_un ?_
  | refine w_chain ?_
  | refine t_test ?_
  | refine t_B ?_
  | refine t_not ?_
  | refine t_and ?_
  | refine t_or ?_
  | refine w_andV ?_
  | refine w_orV ?_
  | refine w_notV ?_
  | refine w_tup ?_
  | refine w_lst ?_
  | refine w_isiInt ?_
  | refine w_rev ?_
  | refine w_cb ?_
  | refine w_sl ?_
  | refine w_join ?_
  | refine t_yes ?_
  | refine w_m1 ?_
  | refine rj_find ?_
  | refine rj_count ?_
  | refine w_joined ?_
  | refine a_nil ?_
  | refine a_cons ?_
  | refine o_none ?_
  | refine o_some ?_
  | refine g_tup rfl ?_
  | refine g_setO rfl rfl ?_
  | refine gs_nil ?_
  | refine gs_cons ?_
  | refine j_nil ?_
  | refine j_cons ?_
  | refine rd_lt ?_
  | refine rd_le ?_
  | refine rd_gt ?_
  | refine rd_ge ?_
  | refine rd_sub ?_
  | refine rd_mod (by first | decide | assumption) ?_
  | refine rd_div (by first | decide | (constructor <;> omega)) ?_
  | refine rd_mulR (by decide) ?_
  | refine rd_powC (by decide) ?_
  | refine rd_addI ?_
  | refine rd_eqI ?_
  | refine rd_neI ?_
  | refine rd_eqS ?_
  | refine rd_neS ?_
  | refine rd_eqB ?_
  | refine rd_neB ?_
  | refine rd_ipa ?_
  | refine rd_ips ?_
  | refine ru_neg ?_
  | refine rx_lenT ?_
  | refine rx_lenL ?_
  | refine rx_abs ?_
  | refine rc_intI ?_
  | refine rc_intB ?_
  | refine rc_tupT ?_
  | refine rc_tupL ?_
  | refine rc_tupR ?_
  | refine rs_tup ?_
  | refine rs_lst ?_
  | refine w_fldO rfl (by assumption) (by assumption) rfl ?_
  | refine w_fldV rfl (by assumption) (by assumption) rfl ?_
  | refine w_fld ?_
  | refine Exists.intro _ (And.intro rfl ?_)
  | refine Exists.intro _ (Exists.intro _ (Exists.intro _ (Exists.intro _ (And.intro rfl (And.intro (by assumption) (And.intro (by assumption) (And.intro (by rfl) ?_)))))))
  | refine w_callI (dds := []) (fun _ => .nil) (Exists.intro _ rfl) ?_
  | refine w_callI0 (dds := []) (fun _ => .nil) (Exists.intro _ rfl) ?_
  | refine w_call (dds := []) (fun _ => .nil) ?_
  | refine w_call0 (dds := []) (fun _ => .nil) ?_
  | refine w_make (dds := []) (fun _ => .nil) ?_
  | refine w_make0 (dds := []) (fun _ => .nil) ?_
  | refine w_meth (dds := []) (fun _ => .nil) ?_
  | refine w_meth0 (dds := []) (fun _ => .nil) ?_
  | refine And.intro (small (by simp only [List.length_cons, List.length_nil]; omega)) ?_
  | refine Exists.intro _ (Exists.intro _ (And.intro rfl (And.intro (by decide) ?_)))
  | refine Or.inl (Exists.intro _ (And.intro rfl ?_))
  | refine Or.inr (Exists.intro _ (And.intro rfl ?_))
  | refine And.intro rfl ?_)
local macro_rules | `(tactic| walk_at "nl") => `(tactic| repeat (first | walk_at "n1" | (dsimp only [onx, rets, lpe, rets1, List.cons_append, List.nil_append])))

local macro_rules | `(tactic| walk_at "f1") => `(tactic| with_reducible first
  | refine s_seq ?_
  | refine iteT ?_
  | refine iteF ?_
  | refine s_asg ?_
  | refine g_nm rfl rfl ?_
  | refine s_ifF ?_
  | refine s_ret ?_
  | refine s_next ?_
  | refine s_retN ?_
  | refine s_drop ?_
  | refine s_brk ?_
  | refine s_cont ?_
  | refine s_aug1 rfl rfl ?_
  | refine s_fldO ?_
  | refine Exists.intro _ (Exists.intro _ (Exists.intro _ (And.intro rfl (And.intro (by assumption) (And.intro (by assumption) (And.intro (by decide) ?_))))))
  | refine w_var rfl ?_
  | refine w_int ?_
  | refine w_str ?_
  | refine w_bl ?_
  | refine w_non ?_
  | refine t_cmp ?_
  | refine rd_ixO rfl rfl ?_
  | refine w_op ?_
  | refine w_un ?_
  | refine w_chain ?_
  | refine t_test ?_
  | refine t_B ?_
  | refine t_not ?_
  | refine t_and ?_
  | refine t_orF ?_
  | refine w_andV ?_
  | refine w_orV ?_
  | refine w_notV ?_
  | refine w_tup ?_
  | refine w_lst ?_
  | refine w_isiInt ?_
  | refine w_rev ?_
  | refine w_cb ?_
  | refine w_sl ?_
  | refine w_join ?_
  | refine t_yes ?_
  | refine w_m1 ?_
  | refine rj_find ?_
  | refine rj_count ?_
  | refine w_joined ?_
  | refine a_nil ?_
  | refine a_cons ?_
  | refine o_none ?_
  | refine o_some ?_
  | refine g_tup rfl ?_
  | refine g_setO rfl rfl ?_
  | refine gs_nil ?_
  | refine gs_cons ?_
  | refine j_nil ?_
  | refine j_cons ?_
  | refine rd_lt ?_
  | refine rd_le ?_
  | refine rd_gt ?_
  | refine rd_ge ?_
  | refine rd_sub ?_
  | refine rd_mod (by first | decide | assumption) ?_
  | refine rd_div (by first | decide | (constructor <;> omega)) ?_
  | refine rd_mulR (by decide) ?_
  | refine rd_powC (by decide) ?_
  | refine rd_addI ?_
  | refine rd_eqI ?_
  | refine rd_neI ?_
  | refine rd_eqS ?_
  | refine rd_neS ?_
  | refine rd_eqB ?_
  | refine rd_neB ?_
  | refine rd_ipa ?_
  | refine rd_ips ?_
  | refine ru_neg ?_
  | refine rx_lenT ?_
  | refine rx_lenL ?_
  | refine rx_abs ?_
  | refine rc_intI ?_
  | refine rc_intB ?_
  | refine rc_tupT ?_
  | refine rc_tupL ?_
  | refine rc_tupR ?_
  | refine rs_tup ?_
  | refine rs_lst ?_
  | refine w_fldO rfl (by assumption) (by assumption) rfl ?_
  | refine w_fldV rfl (by assumption) (by assumption) rfl ?_
  | refine w_fld ?_
  | refine Exists.intro _ (And.intro rfl ?_)
  | refine Exists.intro _ (Exists.intro _ (Exists.intro _ (Exists.intro _ (And.intro rfl (And.intro (by assumption) (And.intro (by assumption) (And.intro (by rfl) ?_)))))))
  | refine w_callI (dds := []) (fun _ => .nil) (Exists.intro _ rfl) ?_
  | refine w_callI0 (dds := []) (fun _ => .nil) (Exists.intro _ rfl) ?_
  | refine w_call (dds := []) (fun _ => .nil) ?_
  | refine w_call0 (dds := []) (fun _ => .nil) ?_
  | refine w_make (dds := []) (fun _ => .nil) ?_
  | refine w_make0 (dds := []) (fun _ => .nil) ?_
  | refine w_meth (dds := []) (fun _ => .nil) ?_
  | refine w_meth0 (dds := []) (fun _ => .nil) ?_
  | refine And.intro (small (by simp only [List.length_cons, List.length_nil]; omega)) ?_
  | refine Exists.intro _ (Exists.intro _ (And.intro rfl (And.intro (by decide) ?_)))
  | refine Or.inl (Exists.intro _ (And.intro rfl ?_))
  | refine Or.inr (Exists.intro _ (And.intro rfl ?_))
  | refine And.intro rfl ?_)
local macro_rules | `(tactic| walk_at "fl") => `(tactic| repeat (first | walk_at "f1" | (dsimp only [onx, rets, lpe, rets1, List.cons_append, List.nil_append])))

/-- a dice, by data -/
def IsDice (d : Dt) : Prop := ∃ x y z : Int, d = .lst [.int x, .int y, .int z]
def pm_dice : Pm := fun ds Φ _ => ∃ x : Int, ds = [.int x] ∧ ∀ d, IsDice d → Φ d
def pm_roll : PmI := fun d0 ds A _ => IsDice d0 ∧ ∃ m : Int, ds = [.int m] ∧ 0 < m ∧ m < 1000000 ∧ ∀ (r : Int) d1, 0 ≤ r → r < m → IsDice d1 → A (.int r) d1
def pm_rounds : Pm := fun ds Φ _ => ∃ ns : List Int, ds = [.lsr (dI ns), .int 1] ∧ ns.length ≤ 100 ∧ ∀ d, IsDice d → Φ (.lst [d])
section
variable {P : Program} {w : World} {K : PySem.W.Frag} {Tb : TbT} {mg : Str → Option Value} {base : Heap}
abbrev s_law_dice : Stmt := top 22
abbrev N_law_dice : List Str := ["cell"]
abbrev P_law_dice : List Str := ["cell"]
theorem sc_law_dice : FnScope N_law_dice P_law_dice (defScope s_law_dice) := ⟨rfl, rfl, rfl, by decide +kernel, rfl, by decide +kernel, by decide +kernel⟩
theorem ok_law_dice {f : Addr} {fd : FuncData} {dvs : List V} (T : Tx K mg) (F : FunD K "_law_dice" "_law_dice" (defArgs s_law_dice) (defBody s_law_dice) (defScope s_law_dice) dvs [] f fd) : FnOk P w K mg base (L2.CX P w) 1 f fd P_law_dice (spD K Tb pm_dice) := by
  refine fnd_D F sc_law_dice (fun ds Φ Ψ h => by obtain ⟨x, rfl, _⟩ := h; rfl) fun cdv A outer s H E hr => ?_
  have tE : Takes (cxOf (L2.CX P w) P w K mg base N_law_dice "_law_dice" (defScope s_law_dice) f cdv A outer s H E) (fun cls d _ H => E cls d H) := takes_of rfl rfl rfl rfl
  have pE : Passes (L2.CX P w) (cxOf (L2.CX P w) P w K mg base N_law_dice "_law_dice" (defScope s_law_dice) f cdv A outer s H E) E := passes_call tE fun _ _ _ _ h => h
  refine ⟨_, (pss_cons (ps_if (pt_chain op_ltX op_ltX (pe_op op_subX pe_int pe_int) (pv 0) pe_int) (pss_one (ps_ret (pe_lst (pa_cons (pe_callB call_absX (by rfl) T.abs (by decide +kernel) (pa_cons (pv 0) pa_nil)) (pa_cons pe_int (pa_cons pe_int pa_nil)))))) pss_nil)
      (pss_one (ps_ret (pe_lst (pa_cons (pv 0) (pa_cons (pe_op (op_addK K rfl) pe_int (pe_op op_modX (pe_callTy call_intX (by rfl) T.int (by decide +kernel) (pa_cons (pv 0) pa_nil)) pe_int)) (pa_cons (pe_callTy call_intX (by rfl) T.int (by decide +kernel) (pa_cons (pe_cmpR op_geX (pv 0) (pe_op op_powX pe_int pe_int) (nomark _)) pa_nil)) pa_nil))))))), ?_⟩
  try simp only [cxOf_K]
  rintro ds Φ Ψ ⟨x, rfl, q⟩
  clear hr tE pE
  walk_at "nl"
  have fin : ∀ {a b z : Int}, Φ (.lst [.int a, .int b, .int z]) := q _ ⟨_, _, _, rfl⟩
  have nx : ∀ {Γ1 : List Sl}, Γ1 = slots0 N_law_dice [Dt.int x] → Ws { K := K, T := Tb, zs := [], E := E, P := Ψ, top := False } (tRet (tLst (tCons (tVar 0)
      (tCons (tOp (rAddX K) (tC (V.int 1)) (tOp rModI (tCB rInt (tCons (tVar 0) tNil)) (tC (V.int 1009))))
        (tCons (tCB rInt (tCons (tOp DL.rGe (tVar 0) (tOp rPowI (tC (V.int 10)) (tC (V.int 18)))) tNil)) tNil))))) Γ1 (rets Φ) := by
    rintro Γ1 rfl
    walk_at "nl"
    exact fin
  refine s_if ?_
  walk_at "nl"
  refine ite_dec (fun h => ?_) fun h => ?_
  · walk_at "nl"
    refine ite_dec (fun h => ?_) fun h => ?_
    · walk_at "nl"
      exact fin
    · walk_at "nl"
      exact fin
  · walk_at "nl"
    exact fin

abbrev s_law_roll : Stmt := top 23
abbrev N_law_roll : List Str := ["dice", "many", "found"]
abbrev P_law_roll : List Str := ["dice", "many"]
theorem sc_law_roll : FnScope N_law_roll P_law_roll (defScope s_law_roll) := ⟨rfl, rfl, rfl, by decide +kernel, rfl, by decide +kernel, by decide +kernel⟩
theorem ok_law_roll {f : Addr} {fd : FuncData} {dvs : List V} (T : Tx K mg) (F : FunD K "_law_roll" "_law_roll" (defArgs s_law_roll) (defBody s_law_roll) (defScope s_law_roll) dvs [] f fd) : FnOk P w K mg base (L2.CX P w) 1 f fd P_law_roll (spI K Tb pm_roll) := by
  refine fnd_I F sc_law_roll (fun d0 ds Φ Ψ h => by obtain ⟨_, x, rfl, _⟩ := h; rfl) (by decide) fun cdv A outer s H E hr => ?_
  have tE : Takes (cxOf (L2.CX P w) P w K mg base N_law_roll "_law_roll" (defScope s_law_roll) f cdv A outer s H E) (fun cls d _ H => E cls d H) := takes_of rfl rfl rfl rfl
  have pE : Passes (L2.CX P w) (cxOf (L2.CX P w) P w K mg base N_law_roll "_law_roll" (defScope s_law_roll) f cdv A outer s H E) E := passes_call tE fun _ _ _ _ h => h
  refine ⟨_, (pss_cons (ps_if (PW.pt (pw_or (pt_cmpR (op_eqK K rfl hr.units) (pe_ix (ix_seqK K rfl) (pv 0) pe_int (fun _ _ => rfl)) pe_int (nomark _)) (pw_or1 (PW.pt (pw_and (pt_cmpR (op_eqK K rfl hr.units) (pe_ix (ix_seqK K rfl) (pv 0) pe_int (fun _ _ => rfl)) pe_int (nomark _)) (pw_and1 (pt_cmpR op_gtX (pe_ix (ix_seqK K rfl) (pv 0) pe_int (fun _ _ => rfl)) pe_int (nomark _)))))))) (pss_cons (ps_set (i := 2) sc_law_roll.nd rfl (by first | exact Or.inl rfl | exact Or.inr rfl) (pe_op op_modX (pe_callTy call_intX (by rfl) T.int (by decide +kernel) (pa_cons (pe_ix (ix_seqK K rfl) (pv 0) pe_int (fun _ _ => rfl)) pa_nil)) (pv 1)))
      (pss_cons (ps_asg (pe_op op_fdivX (pe_ix (ix_seqK K rfl) (pv 0) pe_int (fun _ _ => rfl)) (pv 1)) (pg_sub (pv 0) pe_int set_list))
      (pss_one (ps_ret (pv 2))))) pss_nil)
      (pss_cons (ps_asg pe_int (pg_sub (pv 0) pe_int set_list))
      (pss_cons (ps_asg (pe_op op_modX (pe_callTy call_intX (by rfl) T.int (by decide +kernel) (pa_cons (pe_op (op_addK K rfl) (pe_op (op_addK K rfl) (pe_op op_mulX (pe_ix (ix_seqK K rfl) (pv 0) pe_int (fun _ _ => rfl)) pe_int) (pe_op op_mulX (pe_ix (ix_seqK K rfl) (pv 0) pe_int (fun _ _ => rfl)) pe_int)) pe_int) pa_nil)) pe_int) (pg_sub (pv 0) pe_int set_list))
      (pss_cons (ps_asg (pe_op (op_addK K rfl) (pe_ix (ix_seqK K rfl) (pv 0) pe_int (fun _ _ => rfl)) pe_int) (pg_sub (pv 0) pe_int set_list))
      (pss_one (ps_ret (pe_op op_modX (pe_callTy call_intX (by rfl) T.int (by decide +kernel) (pa_cons (pe_op (op_addK K rfl) (pe_op op_fdivX (pe_ix (ix_seqK K rfl) (pv 0) pe_int (fun _ _ => rfl)) pe_int) (pe_ix (ix_seqK K rfl) (pv 0) pe_int (fun _ _ => rfl))) pa_nil)) (pv 1)))))))), ?_⟩
  try simp only [cxOf_K]
  rintro d0 ds A B ⟨⟨x, y, z, rfl⟩, m, rfl, h0, h1, q⟩
  clear hr tE pE
  walk_at "nl"
  refine s_ifP (z = 2 ∨ (z = 1 ∧ 0 < x)) ?_ (fun h => ?_) fun h => ?_
  · walk_at "nl"
    refine ite_dec (fun h => ?_) fun h => ?_
    · walk_at "nl"
      simp [h]
    walk_at "nl"
    refine ite_dec (fun h2 => ?_) fun h2 => ?_
    · walk_at "nl"
      simp [h, h2]
    · walk_at "nl"
      simp [h, h2]
  · walk_at "nl"
    rintro d1 ⟨⟩
    exact q _ _ (Int.emod_nonneg _ (by omega)) (Int.emod_lt_of_pos _ h0) ⟨_, _, _, rfl⟩
  · walk_at "nl"
    rintro d1 ⟨⟩
    exact q _ _ (Int.emod_nonneg _ (by omega)) (Int.emod_lt_of_pos _ h0) ⟨_, _, _, rfl⟩

end
end TW
namespace TW
open PySem L2 Evl DL
local macro_rules | `(tactic| walk_at "d1") => `(tactic| with_reducible first
  | refine s_seq ?_
  | refine iteT ?_
  | refine iteF ?_
  | refine s_asg ?_
  | refine g_nm rfl rfl ?_
  | refine s_if ?_
  | refine s_ret ?_
  | refine s_next ?_
  | refine s_retN ?_
  | refine s_drop ?_
  | refine s_brk ?_
  | refine s_cont ?_
  | refine s_aug1 rfl rfl ?_
  | refine s_fldO ?_
  | refine Exists.intro _ (Exists.intro _ (Exists.intro _ (And.intro rfl (And.intro (by assumption) (And.intro (by assumption) (And.intro (by decide) ?_))))))
  | refine w_var rfl ?_
  | refine w_int ?_
  | refine w_str ?_
  | refine w_bl ?_
  | refine w_non ?_
  | refine t_cmp ?_
  | refine rd_ixO rfl rfl ?_
  | refine w_op ?_
  | refine w_un ?_
  | refine w_chain ?_
  | refine t_test ?_
  | refine t_B ?_
  | refine t_not ?_
  | refine t_and ?_
  | refine t_or ?_
  | refine w_andV ?_
  | refine w_orV ?_
  | refine w_notV ?_
  | refine w_if ?_
  | refine w_tup ?_
  | refine w_lst ?_
  | refine w_isiInt ?_
  | refine w_rev ?_
  | refine w_cb ?_
  | refine w_sl ?_
  | refine w_join ?_
  | refine t_yes ?_
  | refine w_m1 ?_
  | refine rj_find ?_
  | refine rj_count ?_
  | refine w_joined ?_
  | refine a_nil ?_
  | refine a_cons ?_
  | refine o_none ?_
  | refine o_some ?_
  | refine g_tup rfl ?_
  | refine g_setO rfl rfl ?_
  | refine gs_nil ?_
  | refine gs_cons ?_
  | refine j_nil ?_
  | refine j_cons ?_
  | refine rd_lt ?_
  | refine rd_le ?_
  | refine rd_gt ?_
  | refine rd_ge ?_
  | refine rd_sub ?_
  | refine rd_mod (by first | decide | assumption) ?_
  | refine rd_div (by first | decide | (constructor <;> omega)) ?_
  | refine rd_mulR (by decide) ?_
  | refine rd_powC (by decide) ?_
  | refine rd_addI ?_
  | refine rd_eqI ?_
  | refine rd_neI ?_
  | refine rd_eqS ?_
  | refine rd_neS ?_
  | refine rd_eqB ?_
  | refine rd_neB ?_
  | refine rd_ipa ?_
  | refine rd_ips ?_
  | refine ru_neg ?_
  | refine rx_lenT ?_
  | refine rx_lenL ?_
  | refine rx_abs ?_
  | refine rc_intI ?_
  | refine rc_intB ?_
  | refine rc_tupT ?_
  | refine rc_tupL ?_
  | refine rc_tupR ?_
  | refine rs_tup ?_
  | refine rs_lst ?_
  | refine w_fldO rfl (by assumption) (by assumption) rfl ?_
  | refine w_fldV rfl (by assumption) (by assumption) rfl ?_
  | refine w_fld ?_
  | refine Exists.intro _ (And.intro rfl ?_)
  | refine Exists.intro _ (Exists.intro _ (Exists.intro _ (Exists.intro _ (And.intro rfl (And.intro (by assumption) (And.intro (by assumption) (And.intro (by rfl) ?_)))))))
  | refine w_callI (dds := []) (fun _ => .nil) (Exists.intro _ rfl) ?_
  | refine w_callI0 (dds := []) (fun _ => .nil) (Exists.intro _ rfl) ?_
  | refine w_call (dds := []) (fun _ => .nil) ?_
  | refine w_call0 (dds := []) (fun _ => .nil) ?_
  | refine w_make (dds := []) (fun _ => .nil) ?_
  | refine w_make0 (dds := []) (fun _ => .nil) ?_
  | refine w_meth (dds := []) (fun _ => .nil) ?_
  | refine w_meth0 (dds := []) (fun _ => .nil) ?_
  | refine And.intro (small (by simp only [List.length_cons, List.length_nil]; omega)) ?_
  | refine Exists.intro _ (Exists.intro _ (And.intro rfl (And.intro (by decide) ?_)))
  | refine Or.inl (Exists.intro _ (And.intro rfl ?_))
  | refine Or.inr (Exists.intro _ (And.intro rfl ?_))
  | refine And.intro rfl ?_)
local macro_rules | `(tactic| walk_at "dl") => `(tactic| repeat (first | walk_at "d1" | (dsimp only [onx, rets, lpe, rets1, List.cons_append, List.nil_append])))

local macro_rules | `(tactic| walk_at "n1") => `(tactic| with_reducible first
  | refine s_seq ?_
  | refine iteT ?_
  | refine iteF ?_
  | refine s_asg ?_
  | refine g_nm rfl rfl ?_
  | refine s_ret ?_
  | refine s_next ?_
  | refine s_retN ?_
  | refine s_drop ?_
  | refine s_brk ?_
  | refine s_cont ?_
  | refine s_aug1 rfl rfl ?_
  | refine s_fldO ?_
  | refine Exists.intro _ (Exists.intro _ (Exists.intro _ (And.intro rfl (And.intro (by assumption) (And.intro (by assumption) (And.intro (by decide) ?_))))))
  | refine w_var rfl ?_
  | refine w_int ?_
  | refine w_str ?_
  | refine w_bl ?_
  | refine w_non ?_
  | refine t_cmp ?_
  | refine rd_ixO rfl rfl ?_
  | refine w_op ?_
  | refine w_un ?_
  | refine w_chain ?_
  | refine t_test ?_
  | refine t_B ?_
  | refine t_not ?_
  | refine t_and ?_
  | refine t_or ?_
  | refine w_andV ?_
  | refine w_orV ?_
  | refine w_notV ?_
  | refine w_tup ?_
  | refine w_lst ?_
  | refine w_isiInt ?_
  | refine w_rev ?_
  | refine w_cb ?_
  | refine w_sl ?_
  | refine w_join ?_
  | refine t_yes ?_
  | refine w_m1 ?_
  | refine rj_find ?_
  | refine rj_count ?_
  | refine w_joined ?_
  | refine a_nil ?_
  | refine a_cons ?_
  | refine o_none ?_
  | refine o_some ?_
  | refine g_tup rfl ?_
  | refine g_setO rfl rfl ?_
  | refine gs_nil ?_
  | refine gs_cons ?_
  | refine j_nil ?_
  | refine j_cons ?_
  | refine rd_lt ?_
  | refine rd_le ?_
  | refine rd_gt ?_
  | refine rd_ge ?_
  | refine rd_sub ?_
  | refine rd_mod (by first | decide | assumption) ?_
  | refine rd_div (by first | decide | (constructor <;> omega)) ?_
  | refine rd_mulR (by decide) ?_
  | refine rd_powC (by decide) ?_
  | refine rd_addI ?_
  | refine rd_eqI ?_
  | refine rd_neI ?_
  | refine rd_eqS ?_
  | refine rd_neS ?_
  | refine rd_eqB ?_
  | refine rd_neB ?_
  | refine rd_ipa ?_
  | refine rd_ips ?_
  | refine ru_neg ?_
  | refine rx_lenT ?_
  | refine rx_lenL ?_
  | refine rx_abs ?_
  | refine rc_intI ?_
  | refine rc_intB ?_
  | refine rc_tupT ?_
  | refine rc_tupL ?_
  | refine rc_tupR ?_
  | refine rs_tup ?_
  | refine rs_lst ?_
  | refine w_fldO rfl (by assumption) (by assumption) rfl ?_
  | refine w_fldV rfl (by assumption) (by assumption) rfl ?_
  | refine w_fld ?_
  | refine Exists.intro _ (And.intro rfl ?_)
  | refine Exists.intro _ (Exists.intro _ (Exists.intro _ (Exists.intro _ (And.intro rfl (And.intro (by assumption) (And.intro (by assumption) (And.intro (by rfl) ?_)))))))
  | refine w_callI (dds := []) (fun _ => .nil) (Exists.intro _ rfl) ?_
  | refine w_callI0 (dds := []) (fun _ => .nil) (Exists.intro _ rfl) ?_
  | refine w_call (dds := []) (fun _ => .nil) ?_
  | refine w_call0 (dds := []) (fun _ => .nil) ?_
  | refine w_make (dds := []) (fun _ => .nil) ?_
  | refine w_make0 (dds := []) (fun _ => .nil) ?_
  | refine w_meth (dds := []) (fun _ => .nil) ?_
  | refine w_meth0 (dds := []) (fun _ => .nil) ?_
  | refine And.intro (small (by simp only [List.length_cons, List.length_nil]; omega)) ?_
  | refine Exists.intro _ (Exists.intro _ (And.intro rfl (And.intro (by decide) ?_)))
  | refine Or.inl (Exists.intro _ (And.intro rfl ?_))
  | refine Or.inr (Exists.intro _ (And.intro rfl ?_))
  | refine And.intro rfl ?_)
local macro_rules | `(tactic| walk_at "nl") => `(tactic| repeat (first | walk_at "n1" | (dsimp only [onx, rets, lpe, rets1, List.cons_append, List.nil_append])))

theorem use_roll {d0 : Dt} {m : Int} {A : Dt → Dt → Prop} {B : Addr → Prop} (h : IsDice d0) (h0 : 0 < m) (h1 : m < 1000000) (q : ∀ (r : Int) d1, 0 ≤ r → r < m → IsDice d1 → A (.int r) d1) : pm_roll d0 [.int m] A B := ⟨h, m, rfl, h0, h1, q⟩
theorem rng_at {lo : Int} {n i : Nat} {d : Dt} (h : (rngD lo n)[i]? = some d) : ∃ x, d = .int x := by
  unfold rngD at h
  rw [List.getElem?_map] at h
  cases e : (List.range n)[i]? with
  | none => rw [e] at h; cases h
  | some x => rw [e] at h; exact ⟨_, (Option.some.inj h).symm⟩
def G1 (s m : Int) (Γ : List Sl) : Prop := ∃ d, IsDice d ∧ Γ = [.ow d, .im (.int s), .im (.int m), .un]
def pm_law_tape (C : Addr) : PmI := fun d0 ds A _ => IsDice d0 ∧ ∃ s m : Int, ds = [.int s, .int m] ∧ 0 < s ∧ s ≤ 1000 ∧ 0 < m ∧ m ≤ 100 ∧ ∀ (t : Tp) d1, t.G → t.l.length < m → t.r.length < m → (∀ x ∈ t.word, x < s) → IsDice d1 → A (t.d C) d1
section
variable {P : Program} {w : World} {K : PySem.W.Frag} {Tb : TbT} {mg : Str → Option Value} {base : Heap}
abbrev s_law_rounds : Stmt := top 24
abbrev N_law_rounds : List Str := ["script", "most", "cells", "cell"]
abbrev P_law_rounds : List Str := ["script", "most"]
theorem sc_law_rounds : FnScope N_law_rounds P_law_rounds (defScope s_law_rounds) := ⟨rfl, rfl, rfl, by decide +kernel, rfl, by decide +kernel, by decide +kernel⟩
theorem ok_law_rounds {f : Addr} {fd : FuncData} {dvs : List V} (T : Tx K mg) (Fd_law_dice : Fd P w K mg base "_law_dice" P_law_dice [] 1 (spD K Tb pm_dice)) (F : FunD K "_law_rounds" "_law_rounds" (defArgs s_law_rounds) (defBody s_law_rounds) (defScope s_law_rounds) dvs [] f fd) : FnOk P w K mg base (L2.CX P w) 2 f fd P_law_rounds (spD K Tb pm_rounds) := by
  refine fnd_D F sc_law_rounds (fun ds Φ Ψ h => by obtain ⟨x, rfl, _⟩ := h; rfl) fun cdv A outer s H E hr => ?_
  have tE : Takes (cxOf (L2.CX P w) P w K mg base N_law_rounds "_law_rounds" (defScope s_law_rounds) f cdv A outer s H E) (fun cls d _ H => E cls d H) := takes_of rfl rfl rfl rfl
  have pE : Passes (L2.CX P w) (cxOf (L2.CX P w) P w K mg base N_law_rounds "_law_rounds" (defScope s_law_rounds) f cdv A outer s H E) E := passes_call tE fun _ _ _ _ h => h
  refine ⟨_, (pss_cons (ps_set (i := 2) sc_law_rounds.nd rfl (by first | exact Or.inl rfl | exact Or.inr rfl) (pe_slice (sl_K K rfl) (pv 0) po_none (po_some (pv 1))))
      (pss_cons (ps_if (pt_cmpR (op_eqK K rfl hr.units) (pv 2) (pe_lst pa_nil) (nomark _)) (pss_one (ps_set (i := 2) sc_law_rounds.nd rfl (by first | exact Or.inl rfl | exact Or.inr rfl) (pe_lst (pa_cons pe_int pa_nil)))) pss_nil)
      (pss_one (ps_ret (pe_lc (own := [("cell", 3)]) rfl sc_law_rounds.nd (pi_or (pi_tupK K rfl (pv 2)) (pi_listK K rfl (pv 2))) (blkOk_by (N := N_law_rounds) (sc := defScope s_law_rounds) (by decide +kernel)) (fun _ _ _ _ _ => (pg_name (i := 3) sc_law_rounds.nd rfl (by first | exact Or.inl rfl | exact Or.inr rfl))) (fun _ _ _ _ _ => pts_nil) (fun _ _ _ _ _ => (pe_fn 0 Fd_law_dice (by first | decide | simp) (hr.mono (by decide)) (by rfl) passL (pa_cons (pv 3) pa_nil)))))))), ?_⟩
  try simp only [cxOf_K]
  rintro ds Φ Ψ ⟨ns, rfl, hl, q⟩
  clear hr tE pE
  walk_at "nl"
  refine rs_lsr ?_
  rw [dI_cut, show (some (1 : Int)) = some ((1 : Nat) : Int) from rfl, cut_to]
  walk_at "nl"
  have fin : ∀ (x : Int) {Γ1 : List Sl}, Γ1 = [.im (.lsr (dI ns)), .im (.int 1), .im (.lst (dI [x])), .un] → Wp { K := K, T := Tb, zs := [], E := E, P := Ψ, top := False } (tLc (iOr (iTup K (tVar 2)) (iList K (tVar 2))) (gName 3) tYes (tCall (spD K Tb pm_dice) (List.drop 0 []) E0 (tCons (tVar 3) tNil)) [3]) Γ1 (fun d _ => Φ d) := by
    rintro x Γ1 rfl
    walk_at "nl"
    refine w_lcN rfl (tgt_name (by simp)) IsDice (fun Γ' => Γ' = [.im (.lsr (dI ns)), .im (.int 1), .im (.lst (dI [x])), .un]) (ix_r (i_lst ?_))
    walk_at "nl"
    refine ⟨small (by rw [dI_len]; simp), rfl, ?_, ?_⟩
    · rintro i d Γ' ed rfl
      obtain ⟨y, ey, rfl⟩ := dI_at ed
      walk_at "nl"
      exact ⟨_, rfl, fun d hd => ⟨hd, rfl⟩⟩
    · rintro acc Γ' hl hp rfl
      rw [dI_len] at hl
      match acc, hl, hp with
      | [d], _, hp => exact q d (hp d (by simp))
  refine s_ifP (ns.take 1 = []) ?_ (fun h => ?_) fun h => ?_
  · walk_at "nl"
    refine rd_eqE (eqe_lst eqe_int) (by decide) (ns.take 1) [] ?_
    walk_at "nl"
    simp
  · walk_at "nl"
    exact fin 0 rfl
  · walk_at "nl"
    cases ns with
    | nil => exact (h rfl).elim
    | cons x r => exact fin x rfl

abbrev s_law_tape : Stmt := top 26
abbrev N_law_tape : List Str := ["dice", "signs", "most", "k"]
abbrev P_law_tape : List Str := ["dice", "signs", "most"]
theorem sc_law_tape : FnScope N_law_tape P_law_tape (defScope s_law_tape) := ⟨rfl, rfl, rfl, by decide +kernel, rfl, by decide +kernel, by decide +kernel⟩
theorem ok_law_tape {f : Addr} {fd : FuncData} {dvs : List V} {C X : Addr} {d1 d3 : V} (T : Tx K mg) (Cd_Tape : Cd P w K mg base C "Tape" P_Tape_init [d1, .int 0, d3] 2 (spI K Tb (pm_Tape_init C X))) (Fd_law_roll : Fd P w K mg base "_law_roll" P_law_roll [] 1 (spI K Tb pm_roll)) (F : FunD K "_law_tape" "_law_tape" (defArgs s_law_tape) (defBody s_law_tape) (defScope s_law_tape) dvs [] f fd) : FnOk P w K mg base (L2.CX P w) 4 f fd P_law_tape (spI K Tb (pm_law_tape C)) := by
  refine fnd_I F sc_law_tape (fun d0 ds Φ Ψ h => by obtain ⟨_, s, m, rfl, _⟩ := h; rfl) (by decide) fun cdv A outer s H E hr => ?_
  have tE : Takes (cxOf (L2.CX P w) P w K mg base N_law_tape "_law_tape" (defScope s_law_tape) f cdv A outer s H E) (fun cls d _ H => E cls d H) := takes_of rfl rfl rfl rfl
  have pE : Passes (L2.CX P w) (cxOf (L2.CX P w) P w K mg base N_law_tape "_law_tape" (defScope s_law_tape) f cdv A outer s H E) E := passes_call tE fun _ _ _ _ h => h
  refine ⟨_, (pss_one (ps_ret (pe_cd 3 Cd_Tape (by first | decide | simp) (hr.mono (by decide)) (by rfl) pE (pa_cons (pe_lc (own := [("k", 3)]) rfl sc_law_tape.nd (pi_range1 (by rfl) T.range (pa_cons (pe_fn 0 Fd_law_roll (by first | decide | simp) (hr.mono (by decide)) (by rfl) pE (pa_cons (pv 0) (pa_cons (pv 2) pa_nil))) pa_nil)) (blkOk_by (N := N_law_tape) (sc := defScope s_law_tape) (by decide +kernel)) (fun _ _ _ _ _ => (pg_name (i := 3) sc_law_tape.nd rfl (by first | exact Or.inl rfl | exact Or.inr rfl))) (fun _ _ _ _ _ => pts_nil) (fun _ _ _ _ _ => (pe_fn 0 Fd_law_roll (by first | decide | simp) (hr.mono (by decide)) (by rfl) passL (pa_cons (pv 0) (pa_cons (pv 1) pa_nil))))) (pa_cons (pe_fn 0 Fd_law_roll (by first | decide | simp) (hr.mono (by decide)) (by rfl) pE (pa_cons (pv 0) (pa_cons (pv 1) pa_nil))) (pa_cons (pe_lc (own := [("k", 3)]) rfl sc_law_tape.nd (pi_range1 (by rfl) T.range (pa_cons (pe_fn 0 Fd_law_roll (by first | decide | simp) (hr.mono (by decide)) (by rfl) pE (pa_cons (pv 0) (pa_cons (pv 2) pa_nil))) pa_nil)) (blkOk_by (N := N_law_tape) (sc := defScope s_law_tape) (by decide +kernel)) (fun _ _ _ _ _ => (pg_name (i := 3) sc_law_tape.nd rfl (by first | exact Or.inl rfl | exact Or.inr rfl))) (fun _ _ _ _ _ => pts_nil) (fun _ _ _ _ _ => (pe_fn 0 Fd_law_roll (by first | decide | simp) (hr.mono (by decide)) (by rfl) passL (pa_cons (pv 0) (pa_cons (pv 1) pa_nil))))) pa_nil)))))), ?_⟩
  try simp only [cxOf_K]
  rintro d0 ds A B ⟨id, s, m, rfl, s0, s1, m0, m1, q⟩
  clear hr tE pE
  walk_at "nl"
  refine w_lcN rfl (tgt_name (by simp)) (fun e => ∃ x : Int, e = .int x ∧ (0 ≤ x ∧ x < s)) (G1 s m) (i_rng1 ?_)
  walk_at "nl"
  refine use_roll id m0 (by omega) fun n1 e1 a1 b1 j1 => ?_
  walk_at "nl"
  refine ⟨by omega, by omega, small (by rw [rngD_len]; omega), ⟨e1, j1, rfl⟩, ?_, ?_⟩
  · rintro i d Γ' ed ⟨e2, j2, rfl⟩
    obtain ⟨x, rfl⟩ := rng_at ed
    walk_at "nl"
    refine use_roll j2 s0 (by omega) fun r e3 a3 b3 j3 => ?_
    exact ⟨⟨_, rfl, a3, b3⟩, e3, j3, rfl⟩
  · rintro acc Γ' hl hp ⟨e2, j2, rfl⟩
    obtain ⟨ls, rfl, l1, l2⟩ := ints_of hp
    rw [rngD_len] at hl
    walk_at "nl"
    refine use_roll j2 s0 (by omega) fun hh e3 a3 b3 j3 => ?_
    walk_at "nl"
    refine w_lcN rfl (tgt_name (by simp)) (fun e => ∃ x : Int, e = .int x ∧ (0 ≤ x ∧ x < s)) (G1 s m) (i_rng1 ?_)
    walk_at "nl"
    refine use_roll j3 m0 (by omega) fun n4 e4 a4 b4 j4 => ?_
    walk_at "nl"
    refine ⟨by omega, by omega, small (by rw [rngD_len]; omega), ⟨e4, j4, rfl⟩, ?_, ?_⟩
    · rintro i d Γ' ed ⟨e5, j5, rfl⟩
      obtain ⟨x, rfl⟩ := rng_at ed
      walk_at "nl"
      refine use_roll j5 s0 (by omega) fun r e6 a6 b6 j6 => ?_
      exact ⟨⟨_, rfl, a6, b6⟩, e6, j6, rfl⟩
    · rintro acc2 Γ' hl2 hp2 ⟨e5, j5, rfl⟩
      obtain ⟨rs, rfl, r1, r2⟩ := ints_of hp2
      rw [rngD_len] at hl2
      walk_at "nl"
      have tl := trim_len ls
      have tr := trim_len rs
      refine ⟨rfl, _, _, ls, hh, rs, rfl, ⟨by omega, .inr rfl⟩, ⟨by omega, .inr rfl⟩, fun _ => ⟨rfl, _, _, rfl, ?_⟩, fun z => (z (nn_mk (fun x hx => (l2 x hx).1) a3 fun x hx => (r2 x hx).1)).elim⟩
      rintro d1 ⟨⟩
      refine q (Tp.mk' ls hh rs) _ (Tp.g_mk (fun x hx => (l2 x hx).1) a3 fun x hx => (r2 x hx).1) (by show ((trim ls).length : Int) < m; omega) (by show ((trim rs).length : Int) < m; omega) (fun x hx => ?_) j5
      unfold Tp.word Tp.mk' at hx
      simp only [List.mem_append, List.mem_reverse, List.mem_singleton] at hx
      rcases hx with (hx | hx) | hx
      · exact (l2 x (trim_mem hx)).2
      · rw [hx]; exact b3
      · exact (r2 x (trim_mem hx)).2

end
end TW
namespace TW
open PySem L2 Evl DL
/-! a table of whole numbers to whole numbers -/
def kd (kvs : List (Int × Int)) : List (Key × Dt) := kvs.map fun p => (.inl p.1, .int p.2)
def iget : List (Int × Int) → Int → Option Int
  | [], _ => none
  | p :: r, x => if p.1 = x then some p.2 else iget r x
def iput (kvs : List (Int × Int)) (k v : Int) : List (Int × Int) := if (kvs.any fun p => decide (p.1 = k)) = true then kvs.map (fun p => if p.1 = k then (p.1, v) else p) else kvs ++ [(k, v)]
theorem kd_len (kvs : List (Int × Int)) : (kd kvs).length = kvs.length := List.length_map _
theorem dput_kd (kvs : List (Int × Int)) (k v : Int) : dput (kd kvs) (.inl k) (.int v) = kd (iput kvs k v) := by
  have e : ((kd kvs).any fun p => decide (p.1 = Sum.inl k)) = (kvs.any fun p => decide (p.1 = k)) := by
    unfold kd
    rw [List.any_map]
    congr 1
    funext p
    simp
  unfold dput iput
  rw [e]
  split
  · unfold kd
    rw [List.map_map, List.map_map]
    congr 1
    funext p
    simp only [Function.comp]
    by_cases h : p.1 = k
    · rw [if_pos h, if_pos (by rw [h])]
    · rw [if_neg h, if_neg (fun z => h (Sum.inl.inj z))]
  · unfold kd
    rw [List.map_append]
    rfl
theorem dget_kd (k : Int) : ∀ kvs : List (Int × Int), dget ((kd kvs).map (·.1)) ((kd kvs).map (·.2)) (.inl k) = (iget kvs k).map Dt.int
  | [] => rfl
  | p :: r => by
    have ih := dget_kd k r
    unfold kd at ih ⊢
    simp only [List.map_cons, dget, iget]
    by_cases h : p.1 = k
    · rw [if_pos h, if_pos (by rw [h])]
      rfl
    · rw [if_neg h, if_neg (fun z => h (Sum.inl.inj z))]
      exact ih
def keys (kvs : List (Int × Int)) : List Int := kvs.map (·.1)
theorem keys_kd (kvs : List (Int × Int)) : ((kd kvs).map (·.1)).map keyD = dI (keys kvs) := by
  unfold kd dI keys
  rw [List.map_map, List.map_map, List.map_map]
  rfl
def ig (kvs : List (Int × Int)) (k : Int) : Int := (iget kvs k).getD 0
theorem any_keys (kvs : List (Int × Int)) (k : Int) : (kvs.any fun p => decide (p.1 = k)) = true ↔ k ∈ keys kvs := by
  unfold keys
  simp only [List.any_eq_true, decide_eq_true_eq, List.mem_map]
theorem get_none {k : Int} : ∀ {kvs : List (Int × Int)}, k ∉ keys kvs → iget kvs k = none
  | [], _ => rfl
  | p :: r, h => by
    unfold keys at h
    rw [List.map_cons, List.mem_cons, not_or] at h
    unfold iget
    rw [if_neg (fun z => h.1 z.symm)]
    exact get_none h.2
theorem get_map (k v j : Int) : ∀ kvs : List (Int × Int), iget (kvs.map fun p => if p.1 = k then (p.1, v) else p) j = (iget kvs j).map fun x => if j = k then v else x
  | [] => rfl
  | p :: r => by
    have ih := get_map k v j r
    rw [List.map_cons]
    by_cases h : p.1 = k
    · rw [if_pos h]
      unfold iget
      by_cases e : p.1 = j
      · rw [if_pos e, if_pos e, Option.map_some, if_pos (e.symm.trans h)]
      · rw [if_neg e, if_neg e, ih]
    · rw [if_neg h]
      unfold iget
      by_cases e : p.1 = j
      · rw [if_pos e, if_pos e, Option.map_some, if_neg (fun z => h (e.trans z))]
      · rw [if_neg e, if_neg e, ih]
theorem get_snoc (k v j : Int) : ∀ {kvs : List (Int × Int)}, k ∉ keys kvs → iget (kvs ++ [(k, v)]) j = if j = k then some v else iget kvs j
  | [], _ => by
    show (if k = j then some v else none) = _
    by_cases e : j = k
    · rw [if_pos e, if_pos e.symm]
    · rw [if_neg e, if_neg fun z => e z.symm]
      rfl
  | p :: r, h => by
    unfold keys at h
    rw [List.map_cons, List.mem_cons, not_or] at h
    have ih := get_snoc k v j (kvs := r) h.2
    rw [List.cons_append]
    unfold iget
    by_cases e : p.1 = j
    · rw [if_pos e, if_pos e, if_neg (fun z => h.1 (z.symm.trans e.symm))]
    · rw [if_neg e, if_neg e, ih]
theorem get_some {k : Int} : ∀ {kvs : List (Int × Int)}, k ∈ keys kvs → ∃ v, iget kvs k = some v
  | p :: r, h => by
    unfold iget
    by_cases e : p.1 = k
    · exact ⟨_, if_pos e⟩
    · rw [if_neg e]
      unfold keys at h
      rw [List.map_cons, List.mem_cons] at h
      exact get_some (h.resolve_left fun z => e z.symm)
theorem get_put (kvs : List (Int × Int)) (k v j : Int) : iget (iput kvs k v) j = if j = k then some v else iget kvs j := by
  unfold iput
  by_cases h : k ∈ keys kvs
  · rw [if_pos ((any_keys kvs k).mpr h), get_map]
    by_cases e : j = k
    · obtain ⟨x, hx⟩ := get_some h
      rw [if_pos e, e, hx, Option.map_some, if_pos rfl]
    · rw [if_neg e]
      cases iget kvs j with
      | none => rfl
      | some x => rw [Option.map_some, if_neg e]
  · rw [if_neg (fun z => h ((any_keys kvs k).mp z)), get_snoc k v j h]
theorem ig_put (kvs : List (Int × Int)) (k v j : Int) : ig (iput kvs k v) j = if j = k then v else ig kvs j := by
  unfold ig
  rw [get_put]
  by_cases e : j = k
  · rw [if_pos e, if_pos e]; rfl
  · rw [if_neg e, if_neg e]
theorem keys_put (kvs : List (Int × Int)) (k v : Int) : keys (iput kvs k v) = if k ∈ keys kvs then keys kvs else keys kvs ++ [k] := by
  unfold iput
  by_cases h : k ∈ keys kvs
  · rw [if_pos ((any_keys kvs k).mpr h), if_pos h]
    unfold keys
    rw [List.map_map]
    congr 1
    funext p
    simp only [Function.comp]
    split <;> rfl
  · rw [if_neg (fun z => h ((any_keys kvs k).mp z)), if_neg h]
    unfold keys
    rw [List.map_append]
    rfl
theorem put_nd {kvs : List (Int × Int)} {k v : Int} (h : (keys kvs).Nodup) : (keys (iput kvs k v)).Nodup := by
  rw [keys_put]
  split
  · exact h
  · rename_i q
    rw [List.nodup_append]
    exact ⟨h, by simp, fun a ha b hb e => q (by rw [List.mem_singleton.mp hb] at e; rw [← e]; exact ha)⟩
theorem put_mem {kvs : List (Int × Int)} {k v j : Int} (h : j ∈ keys (iput kvs k v)) : j ∈ keys kvs ∨ j = k := by
  rw [keys_put] at h
  split at h
  · exact .inl h
  · rcases List.mem_append.mp h with h | h
    · exact .inl h
    · exact .inr (List.mem_singleton.mp h)
theorem put_len (kvs : List (Int × Int)) (k v : Int) : (iput kvs k v).length ≤ kvs.length + 1 := by
  have e : (iput kvs k v).length = (keys (iput kvs k v)).length := (List.length_map _).symm
  have e2 : kvs.length = (keys kvs).length := (List.length_map _).symm
  rw [e, keys_put, e2]
  split
  · omega
  · rw [List.length_append, List.length_singleton]; exact Nat.le_refl _
def nzk (kvs : List (Int × Int)) : List Int := (keys kvs).filter fun k => !decide (ig kvs k = 0)
def cnt (kvs : List (Int × Int)) : Nat := (nzk kvs).length
def b1 (x : Int) : Nat := if x = 0 then 0 else 1
theorem filt_one {k : Int} {p q : Int → Bool} (h : ∀ j, j ≠ k → p j = q j) : ∀ {L : List Int}, L.Nodup → k ∈ L → (L.filter q).length + (if p k = true then 1 else 0) = (L.filter p).length + (if q k = true then 1 else 0)
  | a :: r, nd, m => by
    obtain ⟨n1, n2⟩ := List.nodup_cons.mp nd
    by_cases e : a = k
    · subst e
      have ee : r.filter q = r.filter p := List.filter_congr fun j hj => (h j fun z => n1 (by rw [← z]; exact hj)).symm
      rw [List.filter_cons, List.filter_cons, ee]
      by_cases h1 : q a = true <;> by_cases h2 : p a = true <;> simp [h1, h2]
    · have ih := filt_one h n2 ((List.mem_cons.mp m).resolve_left fun z => e z.symm)
      rw [List.filter_cons, List.filter_cons, h a e]
      by_cases h1 : q a = true
      · rw [if_pos h1, if_pos h1, List.length_cons, List.length_cons]
        omega
      · rw [if_neg h1, if_neg h1]
        exact ih
theorem cnt_put {kvs : List (Int × Int)} {k v : Int} (nd : (keys kvs).Nodup) : cnt (iput kvs k v) + b1 (ig kvs k) = cnt kvs + b1 v := by
  have hb : ∀ x : Int, b1 x = if (!decide (x = 0)) = true then 1 else 0 := fun x => by
    unfold b1
    by_cases h : x = 0 <;> simp [h]
  unfold cnt nzk
  by_cases m : k ∈ keys kvs
  · rw [keys_put, if_pos m]
    have := filt_one (k := k) (p := fun j => !decide (ig kvs j = 0)) (q := fun j => !decide (ig (iput kvs k v) j = 0)) (fun j hj => by rw [ig_put, if_neg hj]) nd m
    rw [hb, hb]
    have e : ig (iput kvs k v) k = v := by rw [ig_put, if_pos rfl]
    rw [e] at this
    exact this
  · have e0 : ig kvs k = 0 := by unfold ig; rw [get_none m]; rfl
    rw [keys_put, if_neg m, e0, List.filter_append, List.length_append]
    have e1 : (keys kvs).filter (fun j => !decide (ig (iput kvs k v) j = 0)) = (keys kvs).filter fun j => !decide (ig kvs j = 0) := List.filter_congr fun j hj => by
      rw [ig_put, if_neg fun z => m (by rw [← z]; exact hj)]
    rw [e1, hb v, List.filter_cons, ig_put, if_pos rfl]
    by_cases h : v = 0 <;> simp [h, b1]

/-! rows and tapes -/
def ra (xs : List Int) (i : Nat) : Int := (xs[i]?).getD 0
theorem ra_nil (i : Nat) : ra [] i = 0 := by unfold ra; simp
theorem ra_cons0 (x : Int) (xs : List Int) : ra (x :: xs) 0 = x := rfl
theorem ra_cons (x : Int) (xs : List Int) (i : Nat) : ra (x :: xs) (i + 1) = ra xs i := rfl
theorem ra_snoc0 (xs : List Int) (i : Nat) : ra (xs ++ [0]) i = ra xs i := by
  unfold ra
  by_cases h : i < xs.length
  · rw [List.getElem?_append_left h]
  · rw [List.getElem?_append_right (by omega), List.getElem?_eq_none (l := xs) (by omega)]
    cases e : i - xs.length with
    | zero => rfl
    | succ n => simp
theorem snoc_ind {P : List Int → Prop} (h0 : P []) (h1 : ∀ xs x, P xs → P (xs ++ [x])) : ∀ n (xs : List Int), xs.length = n → P xs
  | 0, xs, e => by rw [List.length_eq_zero_iff.mp e]; exact h0
  | n + 1, xs, e => by
    have hne : xs ≠ [] := fun z => by rw [z] at e; cases e
    rw [← List.dropLast_concat_getLast hne]
    exact h1 _ _ (snoc_ind h0 h1 n _ (by rw [List.length_dropLast, e]; rfl))
theorem snoc_rec {P : List Int → Prop} (h0 : P []) (h1 : ∀ xs x, P xs → P (xs ++ [x])) (xs : List Int) : P xs := snoc_ind h0 h1 _ xs rfl
theorem ra_trim (i : Nat) (xs : List Int) : ra (trim xs) i = ra xs i := by
  induction xs using snoc_rec with
  | h0 => rfl
  | h1 xs x ih =>
    by_cases h : x = 0
    · rw [h, trim_zero, ra_snoc0, ih]
    · rw [trim_nz xs h]
def nz (xs : List Int) : Nat := (xs.filter fun x => x ≠ 0).length
theorem nz_nil : nz [] = 0 := rfl
theorem nz_app (xs ys : List Int) : nz (xs ++ ys) = nz xs + nz ys := by unfold nz; rw [List.filter_append, List.length_append]
theorem nz_one (x : Int) : nz [x] = b1 x := by unfold nz b1; by_cases h : x = 0 <;> simp [h]
theorem nz_cons (x : Int) (xs : List Int) : nz (x :: xs) = b1 x + nz xs := by rw [← nz_one, ← nz_app]; rfl
theorem nz_rev (xs : List Int) : nz xs.reverse = nz xs := by unfold nz; rw [List.filter_reverse, List.length_reverse]
theorem nz_trim (xs : List Int) : nz (trim xs) = nz xs := by
  induction xs using snoc_rec with
  | h0 => rfl
  | h1 xs x ih =>
    by_cases h : x = 0
    · rw [h, trim_zero, nz_app, ih, nz_one]; rfl
    · rw [trim_nz xs h]
theorem nz_head (xs : List Int) : b1 (xs.headD 0) + nz (xs.drop 1) = nz xs := by
  cases xs with
  | nil => rfl
  | cons x r => rw [nz_cons]; rfl
theorem ones_eq (t : Tp) : t.ones = nz t.l + b1 t.h + nz t.r := by
  unfold Tp.ones Tp.word
  rw [← nz_one, ← nz_rev t.l, ← nz_app, ← nz_app]
  rfl
theorem ones_wr (t : Tp) (s : Int) : (t.wr s).ones + b1 t.h = t.ones + b1 s := by
  rw [ones_eq, ones_eq]
  show nz t.l + b1 s + nz t.r + b1 t.h = _
  omega
theorem ones_mv (t : Tp) (w : Int) : (t.mv w).ones = t.ones := by
  unfold Tp.mv
  split
  · rfl
  · split
    · rw [ones_eq, ones_eq]
      show nz (trim (t.h :: t.l)) + b1 (t.r.headD 0) + nz (trim (t.r.drop 1)) = _
      have := nz_head t.r
      rw [nz_trim, nz_trim, nz_cons]
      omega
    · rw [ones_eq, ones_eq]
      show nz (trim (t.l.drop 1)) + b1 (t.l.headD 0) + nz (trim (t.h :: t.r)) = _
      have := nz_head t.l
      rw [nz_trim, nz_trim, nz_cons]
      omega
theorem at_0 (t : Tp) : t.at 0 = t.h := rfl
theorem at_p (t : Tp) (n : Nat) : t.at ((n : Int) + 1) = ra t.r n := by
  unfold Tp.at ra
  rw [if_neg (by omega), if_pos (by omega), show ((n : Int) + 1).natAbs - 1 = n by omega]
theorem at_n (t : Tp) (n : Nat) : t.at (-((n : Int) + 1)) = ra t.l n := by
  unfold Tp.at ra
  rw [if_neg (by omega), if_neg (by omega), show (-((n : Int) + 1)).natAbs - 1 = n by omega]
theorem int3 (k : Int) : k = 0 ∨ (∃ n : Nat, k = (n : Int) + 1) ∨ ∃ n : Nat, k = -((n : Int) + 1) := by
  rcases Int.lt_trichotomy k 0 with h | h | h
  · exact .inr (.inr ⟨(-k - 1).toNat, by omega⟩)
  · exact .inl h
  · exact .inr (.inl ⟨(k - 1).toNat, by omega⟩)
theorem ra_drop (xs : List Int) (i : Nat) : ra (xs.drop 1) i = ra xs (i + 1) := by
  cases xs with
  | nil => rw [ra_nil]; exact (ra_nil i)
  | cons x r => rfl
theorem headD_ra (xs : List Int) : xs.headD 0 = ra xs 0 := by cases xs <;> rfl
theorem at_wr (t : Tp) (s k : Int) : (t.wr s).at k = if k = 0 then s else t.at k := by
  unfold Tp.at Tp.wr
  split <;> rfl
theorem at_mv (t : Tp) {w : Int} (h1 : -1 ≤ w) (h2 : w ≤ 1) (k : Int) : (t.mv w).at k = t.at (k + w) := by
  unfold Tp.mv
  by_cases h0 : w = 0
  · rw [if_pos h0, h0, Int.add_zero]
  rw [if_neg h0]
  by_cases hp : w = 1
  · rw [if_pos hp, hp]
    rcases int3 k with rfl | ⟨n, rfl⟩ | ⟨n, rfl⟩
    · show t.r.headD 0 = t.at (0 + 1)
      rw [headD_ra, show (0 + 1 : Int) = ((0 : Nat) : Int) + 1 from rfl, at_p]
    · rw [at_p, show (n : Int) + 1 + 1 = ((n + 1 : Nat) : Int) + 1 by omega, at_p]
      show ra (trim (t.r.drop 1)) n = _
      rw [ra_trim, ra_drop]
    · rw [at_n]
      show ra (trim (t.h :: t.l)) n = _
      rw [ra_trim]
      cases n with
      | zero => rfl
      | succ m => rw [ra_cons, show -(((m + 1 : Nat) : Int) + 1) + 1 = -((m : Int) + 1) by omega, at_n]
  · rw [if_neg hp, show w = -1 by omega]
    rcases int3 k with rfl | ⟨n, rfl⟩ | ⟨n, rfl⟩
    · show t.l.headD 0 = t.at (0 + -1)
      rw [headD_ra, show (0 + -1 : Int) = -(((0 : Nat) : Int) + 1) from rfl, at_n]
    · rw [at_p]
      show ra (trim (t.h :: t.r)) n = _
      rw [ra_trim]
      cases n with
      | zero => rfl
      | succ m => rw [ra_cons, show ((m + 1 : Nat) : Int) + 1 + -1 = (m : Int) + 1 by omega, at_p]
    · rw [at_n, show -((n : Int) + 1) + -1 = -(((n + 1 : Nat) : Int) + 1) by omega, at_n]
      show ra (trim (t.l.drop 1)) n = _
      rw [ra_trim, ra_drop]
/-- the tape's signs, seen from a head at p, are those of a table -/
structure Rel (m : Nat) (t : Tp) (p : Int) (kvs : List (Int × Int)) : Prop where
  g : t.G
  ll : t.l.length ≤ 3 + m
  lr : t.r.length ≤ 3 + m
  pb : -(m : Int) ≤ p ∧ p ≤ m
  sg : ∀ k, t.at (k - p) = ig kvs k
  one : t.ones = cnt kvs
  nd : (keys kvs).Nodup
  kb : ∀ k ∈ keys kvs, -(4 + (m : Int)) ≤ k ∧ k ≤ 4 + m
  len : kvs.length ≤ 8 + m
theorem mv_len (t : Tp) (w : Int) : (t.mv w).l.length ≤ t.l.length + 1 ∧ (t.mv w).r.length ≤ t.r.length + 1 := by
  unfold Tp.mv
  split
  · omega
  · split
    · have h1 := trim_len (t.h :: t.l)
      have h2 := trim_len (t.r.drop 1)
      rw [List.length_cons] at h1
      rw [List.length_drop] at h2
      exact ⟨h1, by show (trim (t.r.drop 1)).length ≤ _; omega⟩
    · have h1 := trim_len (t.h :: t.r)
      have h2 := trim_len (t.l.drop 1)
      rw [List.length_cons] at h1
      rw [List.length_drop] at h2
      exact ⟨by show (trim (t.l.drop 1)).length ≤ _; omega, h1⟩
theorem Rel.step {m : Nat} {t : Tp} {p : Int} {kvs : List (Int × Int)} (r : Rel m t p kvs) {s w : Int} (s0 : 0 ≤ s) (w1 : -1 ≤ w) (w2 : w ≤ 1) : Rel (m + 1) ((t.wr s).mv w) (p + w) (iput kvs p s) := by
  have l1 := mv_len (t.wr s) w
  have a1 : (t.wr s).l.length = t.l.length := rfl
  have a2 : (t.wr s).r.length = t.r.length := rfl
  have b1 := r.ll
  have b2 := r.lr
  have b3 := r.pb
  refine ⟨(r.g.wr s0).mv w, by omega, by omega, by omega, fun k => ?_, ?_, put_nd r.nd, fun k hk => ?_, ?_⟩
  · rw [at_mv _ w1 w2, at_wr, ig_put, show k - (p + w) + w = k - p by omega, r.sg]
    by_cases e : k = p
    · rw [if_pos e, if_pos (by omega)]
    · rw [if_neg e, if_neg (by omega)]
  · rw [ones_mv]
    have h1 := ones_wr t s
    have h2 := cnt_put (k := p) (v := s) r.nd
    have h3 : ig kvs p = t.h := by rw [← r.sg p, Int.sub_self]; rfl
    have h4 := r.one
    rw [h3] at h2
    omega
  · rcases put_mem hk with h | h
    · have := r.kb k h
      omega
    · omega
  · have := put_len kvs p s
    have := r.len
    omega
end TW
namespace TW
open PySem L2 Evl DL
local macro_rules | `(tactic| walk_at "d1") => `(tactic| with_reducible first
  | refine s_seq ?_
  | refine iteT ?_
  | refine iteF ?_
  | refine s_asg ?_
  | refine g_nm rfl rfl ?_
  | refine s_if ?_
  | refine s_ret ?_
  | refine s_next ?_
  | refine s_retN ?_
  | refine s_drop ?_
  | refine s_brk ?_
  | refine s_cont ?_
  | refine s_aug1 rfl rfl ?_
  | refine s_fldO ?_
  | refine Exists.intro _ (Exists.intro _ (Exists.intro _ (And.intro rfl (And.intro (by assumption) (And.intro (by assumption) (And.intro (by decide) ?_))))))
  | refine w_var rfl ?_
  | refine w_int ?_
  | refine w_str ?_
  | refine w_bl ?_
  | refine w_non ?_
  | refine t_cmp ?_
  | refine rd_ixO rfl rfl ?_
  | refine w_op ?_
  | refine w_un ?_
  | refine w_chain ?_
  | refine t_test ?_
  | refine t_B ?_
  | refine t_not ?_
  | refine t_and ?_
  | refine t_or ?_
  | refine w_andV ?_
  | refine w_orV ?_
  | refine w_notV ?_
  | refine w_if ?_
  | refine w_tup ?_
  | refine w_lst ?_
  | refine w_isiInt ?_
  | refine w_rev ?_
  | refine w_cb ?_
  | refine w_sl ?_
  | refine w_join ?_
  | refine t_yes ?_
  | refine w_m1 ?_
  | refine rj_find ?_
  | refine rj_count ?_
  | refine w_joined ?_
  | refine a_nil ?_
  | refine a_cons ?_
  | refine o_none ?_
  | refine o_some ?_
  | refine g_tup rfl ?_
  | refine g_setO rfl rfl ?_
  | refine gs_nil ?_
  | refine gs_cons ?_
  | refine j_nil ?_
  | refine j_cons ?_
  | refine rd_lt ?_
  | refine rd_le ?_
  | refine rd_gt ?_
  | refine rd_ge ?_
  | refine rd_sub ?_
  | refine rd_mod (by first | decide | assumption) ?_
  | refine rd_div (by first | decide | (constructor <;> omega)) ?_
  | refine rd_mulR (by decide) ?_
  | refine rd_powC (by decide) ?_
  | refine rd_addI ?_
  | refine rd_eqI ?_
  | refine rd_neI ?_
  | refine rd_eqS ?_
  | refine rd_neS ?_
  | refine rd_eqB ?_
  | refine rd_neB ?_
  | refine rd_ipa ?_
  | refine rd_ips ?_
  | refine ru_neg ?_
  | refine rx_lenT ?_
  | refine rx_lenL ?_
  | refine rx_abs ?_
  | refine rc_intI ?_
  | refine rc_intB ?_
  | refine rc_tupT ?_
  | refine rc_tupL ?_
  | refine rc_tupR ?_
  | refine rs_tup ?_
  | refine rs_lst ?_
  | refine w_fldO rfl (by assumption) (by assumption) rfl ?_
  | refine w_fldV rfl (by assumption) (by assumption) rfl ?_
  | refine w_fld ?_
  | refine Exists.intro _ (And.intro rfl ?_)
  | refine Exists.intro _ (Exists.intro _ (Exists.intro _ (Exists.intro _ (And.intro rfl (And.intro (by assumption) (And.intro (by assumption) (And.intro (by rfl) ?_)))))))
  | refine w_callI (dds := []) (fun _ => .nil) (Exists.intro _ rfl) ?_
  | refine w_callI0 (dds := []) (fun _ => .nil) (Exists.intro _ rfl) ?_
  | refine w_call (dds := []) (fun _ => .nil) ?_
  | refine w_call0 (dds := []) (fun _ => .nil) ?_
  | refine w_make (dds := []) (fun _ => .nil) ?_
  | refine w_make0 (dds := []) (fun _ => .nil) ?_
  | refine w_meth (dds := []) (fun _ => .nil) ?_
  | refine w_meth0 (dds := []) (fun _ => .nil) ?_
  | refine And.intro (small (by simp only [List.length_cons, List.length_nil]; omega)) ?_
  | refine Exists.intro _ (Exists.intro _ (And.intro rfl (And.intro (by decide) ?_)))
  | refine Or.inl (Exists.intro _ (And.intro rfl ?_))
  | refine Or.inr (Exists.intro _ (And.intro rfl ?_))
  | refine And.intro rfl ?_)
local macro_rules | `(tactic| walk_at "dl") => `(tactic| repeat (first | walk_at "d1" | (dsimp only [onx, rets, lpe, rets1, List.cons_append, List.nil_append])))

local macro_rules | `(tactic| walk_at "n1") => `(tactic| with_reducible first
  | refine s_seq ?_
  | refine iteT ?_
  | refine iteF ?_
  | refine s_asg ?_
  | refine g_nm rfl rfl ?_
  | refine s_ret ?_
  | refine s_next ?_
  | refine s_retN ?_
  | refine s_drop ?_
  | refine s_brk ?_
  | refine s_cont ?_
  | refine s_aug1 rfl rfl ?_
  | refine s_fldO ?_
  | refine Exists.intro _ (Exists.intro _ (Exists.intro _ (And.intro rfl (And.intro (by assumption) (And.intro (by assumption) (And.intro (by decide) ?_))))))
  | refine w_var rfl ?_
  | refine w_int ?_
  | refine w_str ?_
  | refine w_bl ?_
  | refine w_non ?_
  | refine t_cmp ?_
  | refine rd_ixO rfl rfl ?_
  | refine w_op ?_
  | refine w_un ?_
  | refine w_chain ?_
  | refine t_test ?_
  | refine t_B ?_
  | refine t_not ?_
  | refine t_and ?_
  | refine t_or ?_
  | refine w_andV ?_
  | refine w_orV ?_
  | refine w_notV ?_
  | refine w_tup ?_
  | refine w_lst ?_
  | refine w_isiInt ?_
  | refine w_rev ?_
  | refine w_cb ?_
  | refine w_sl ?_
  | refine w_join ?_
  | refine t_yes ?_
  | refine w_m1 ?_
  | refine rj_find ?_
  | refine rj_count ?_
  | refine w_joined ?_
  | refine a_nil ?_
  | refine a_cons ?_
  | refine o_none ?_
  | refine o_some ?_
  | refine g_tup rfl ?_
  | refine g_setO rfl rfl ?_
  | refine gs_nil ?_
  | refine gs_cons ?_
  | refine j_nil ?_
  | refine j_cons ?_
  | refine rd_lt ?_
  | refine rd_le ?_
  | refine rd_gt ?_
  | refine rd_ge ?_
  | refine rd_sub ?_
  | refine rd_mod (by first | decide | assumption) ?_
  | refine rd_div (by first | decide | (constructor <;> omega)) ?_
  | refine rd_mulR (by decide) ?_
  | refine rd_powC (by decide) ?_
  | refine rd_addI ?_
  | refine rd_eqI ?_
  | refine rd_neI ?_
  | refine rd_eqS ?_
  | refine rd_neS ?_
  | refine rd_eqB ?_
  | refine rd_neB ?_
  | refine rd_ipa ?_
  | refine rd_ips ?_
  | refine ru_neg ?_
  | refine rx_lenT ?_
  | refine rx_lenL ?_
  | refine rx_abs ?_
  | refine rc_intI ?_
  | refine rc_intB ?_
  | refine rc_tupT ?_
  | refine rc_tupL ?_
  | refine rc_tupR ?_
  | refine rs_tup ?_
  | refine rs_lst ?_
  | refine w_fldO rfl (by assumption) (by assumption) rfl ?_
  | refine w_fldV rfl (by assumption) (by assumption) rfl ?_
  | refine w_fld ?_
  | refine Exists.intro _ (And.intro rfl ?_)
  | refine Exists.intro _ (Exists.intro _ (Exists.intro _ (Exists.intro _ (And.intro rfl (And.intro (by assumption) (And.intro (by assumption) (And.intro (by rfl) ?_)))))))
  | refine w_callI (dds := []) (fun _ => .nil) (Exists.intro _ rfl) ?_
  | refine w_callI0 (dds := []) (fun _ => .nil) (Exists.intro _ rfl) ?_
  | refine w_call (dds := []) (fun _ => .nil) ?_
  | refine w_call0 (dds := []) (fun _ => .nil) ?_
  | refine w_make (dds := []) (fun _ => .nil) ?_
  | refine w_make0 (dds := []) (fun _ => .nil) ?_
  | refine w_meth (dds := []) (fun _ => .nil) ?_
  | refine w_meth0 (dds := []) (fun _ => .nil) ?_
  | refine And.intro (small (by simp only [List.length_cons, List.length_nil]; omega)) ?_
  | refine Exists.intro _ (Exists.intro _ (And.intro rfl (And.intro (by decide) ?_)))
  | refine Or.inl (Exists.intro _ (And.intro rfl ?_))
  | refine Or.inr (Exists.intro _ (And.intro rfl ?_))
  | refine And.intro rfl ?_)
local macro_rules | `(tactic| walk_at "nl") => `(tactic| repeat (first | walk_at "n1" | (dsimp only [onx, rets, lpe, rets1, List.cons_append, List.nil_append])))

local macro_rules | `(tactic| walk_at "f1") => `(tactic| with_reducible first
  | refine s_seq ?_
  | refine iteT ?_
  | refine iteF ?_
  | refine s_asg ?_
  | refine g_nm rfl rfl ?_
  | refine s_ifF ?_
  | refine s_ret ?_
  | refine s_next ?_
  | refine s_retN ?_
  | refine s_drop ?_
  | refine s_brk ?_
  | refine s_cont ?_
  | refine s_aug1 rfl rfl ?_
  | refine s_fldO ?_
  | refine Exists.intro _ (Exists.intro _ (Exists.intro _ (And.intro rfl (And.intro (by assumption) (And.intro (by assumption) (And.intro (by decide) ?_))))))
  | refine w_var rfl ?_
  | refine w_int ?_
  | refine w_str ?_
  | refine w_bl ?_
  | refine w_non ?_
  | refine t_cmp ?_
  | refine rd_ixO rfl rfl ?_
  | refine w_op ?_
  | refine w_un ?_
  | refine w_chain ?_
  | refine t_test ?_
  | refine t_B ?_
  | refine t_not ?_
  | refine t_and ?_
  | refine t_orF ?_
  | refine w_andV ?_
  | refine w_orV ?_
  | refine w_notV ?_
  | refine w_tup ?_
  | refine w_lst ?_
  | refine w_isiInt ?_
  | refine w_rev ?_
  | refine w_cb ?_
  | refine w_sl ?_
  | refine w_join ?_
  | refine t_yes ?_
  | refine w_m1 ?_
  | refine rj_find ?_
  | refine rj_count ?_
  | refine w_joined ?_
  | refine a_nil ?_
  | refine a_cons ?_
  | refine o_none ?_
  | refine o_some ?_
  | refine g_tup rfl ?_
  | refine g_setO rfl rfl ?_
  | refine gs_nil ?_
  | refine gs_cons ?_
  | refine j_nil ?_
  | refine j_cons ?_
  | refine rd_lt ?_
  | refine rd_le ?_
  | refine rd_gt ?_
  | refine rd_ge ?_
  | refine rd_sub ?_
  | refine rd_mod (by first | decide | assumption) ?_
  | refine rd_div (by first | decide | (constructor <;> omega)) ?_
  | refine rd_mulR (by decide) ?_
  | refine rd_powC (by decide) ?_
  | refine rd_addI ?_
  | refine rd_eqI ?_
  | refine rd_neI ?_
  | refine rd_eqS ?_
  | refine rd_neS ?_
  | refine rd_eqB ?_
  | refine rd_neB ?_
  | refine rd_ipa ?_
  | refine rd_ips ?_
  | refine ru_neg ?_
  | refine rx_lenT ?_
  | refine rx_lenL ?_
  | refine rx_abs ?_
  | refine rc_intI ?_
  | refine rc_intB ?_
  | refine rc_tupT ?_
  | refine rc_tupL ?_
  | refine rc_tupR ?_
  | refine rs_tup ?_
  | refine rs_lst ?_
  | refine w_fldO rfl (by assumption) (by assumption) rfl ?_
  | refine w_fldV rfl (by assumption) (by assumption) rfl ?_
  | refine w_fld ?_
  | refine Exists.intro _ (And.intro rfl ?_)
  | refine Exists.intro _ (Exists.intro _ (Exists.intro _ (Exists.intro _ (And.intro rfl (And.intro (by assumption) (And.intro (by assumption) (And.intro (by rfl) ?_)))))))
  | refine w_callI (dds := []) (fun _ => .nil) (Exists.intro _ rfl) ?_
  | refine w_callI0 (dds := []) (fun _ => .nil) (Exists.intro _ rfl) ?_
  | refine w_call (dds := []) (fun _ => .nil) ?_
  | refine w_call0 (dds := []) (fun _ => .nil) ?_
  | refine w_make (dds := []) (fun _ => .nil) ?_
  | refine w_make0 (dds := []) (fun _ => .nil) ?_
  | refine w_meth (dds := []) (fun _ => .nil) ?_
  | refine w_meth0 (dds := []) (fun _ => .nil) ?_
  | refine And.intro (small (by simp only [List.length_cons, List.length_nil]; omega)) ?_
  | refine Exists.intro _ (Exists.intro _ (And.intro rfl (And.intro (by decide) ?_)))
  | refine Or.inl (Exists.intro _ (And.intro rfl ?_))
  | refine Or.inr (Exists.intro _ (And.intro rfl ?_))
  | refine And.intro rfl ?_)
local macro_rules | `(tactic| walk_at "fl") => `(tactic| repeat (first | walk_at "f1" | (dsimp only [onx, rets, lpe, rets1, List.cons_append, List.nil_append])))

theorem u1 {n m : Nat} (h : n + 64 < m) : n + 1 < m := Nat.lt_of_le_of_lt (Nat.add_le_add_left (by decide) _) h
structure Ty (K : PySem.W.Frag) (mg : Str → Option Value) : Prop where
  min : mg "min" = none
  max : mg "max" = none
  list : mg "list" = none
theorem ig_getD (kvs : List (Int × Int)) (k : Int) : ((iget kvs k).map Dt.int).getD (.int 0) = .int (ig kvs k) := by
  unfold ig
  cases iget kvs k <;> rfl
theorem ig_in {kvs : List (Int × Int)} {k : Int} (h : k ∈ keys kvs) : (iget kvs k).map Dt.int = some (.int (ig kvs k)) := by
  obtain ⟨v, e⟩ := get_some h
  unfold ig
  rw [e]
  rfl
def pm_same (C : Addr) : Pm := fun ds Φ _ => ∃ (t : Tp) (p : Int) (kvs : List (Int × Int)), ds = [t.d C, .int p, dKd (kd kvs)] ∧ Rel 8 t p kvs ∧ Φ (.bl true)
section
variable {P : Program} {w : World} {K : PySem.W.Frag} {Tb : TbT} {mg : Str → Option Value} {base : Heap}
abbrev s_law_same : Stmt := top 27
abbrev N_law_same : List Str := ["tape", "place", "cells", "spots", "k"]
abbrev P_law_same : List Str := ["tape", "place", "cells"]
theorem sc_law_same : FnScope N_law_same P_law_same (defScope s_law_same) := ⟨rfl, rfl, rfl, by decide +kernel, rfl, by decide +kernel, by decide +kernel⟩
theorem ok_law_same {f : Addr} {fd : FuncData} {dvs : List V} {C : Addr} (T : Tx K mg) (T2 : Ty K mg) (Md_Tape_at : Md P w K mg base C "at" P_Tape_at [] 2 (spD K Tb (pm_at C))) (Md_Tape_ones : Md P w K mg base C "ones" P_Tape_ones [] 2 (spD K Tb (pm_ones C))) (F : FunD K "_law_same" "_law_same" (defArgs s_law_same) (defBody s_law_same) (defScope s_law_same) dvs [] f fd) : FnOk P w K mg base (L2.CX P w) 3 f fd P_law_same (spD K Tb (pm_same C)) := by
  refine fnd_D F sc_law_same (fun ds Φ Ψ h => by obtain ⟨t, p, kvs, rfl, _⟩ := h; rfl) fun cdv A outer s H E hr => ?_
  have tE : Takes (cxOf (L2.CX P w) P w K mg base N_law_same "_law_same" (defScope s_law_same) f cdv A outer s H E) (fun cls d _ H => E cls d H) := takes_of rfl rfl rfl rfl
  have pE : Passes (L2.CX P w) (cxOf (L2.CX P w) P w K mg base N_law_same "_law_same" (defScope s_law_same) f cdv A outer s H E) E := passes_call tE fun _ _ _ _ h => h
  refine ⟨_, (pss_cons (ps_set (i := 3) sc_law_same.nd rfl (by first | exact Or.inl rfl | exact Or.inr rfl) (pe_op (op_addK K rfl) (pe_lst (pa_cons pe_int pa_nil)) (pe_callTy (call_listK rfl) (by rfl) T2.list (by decide +kernel) (pa_cons (pv 2) pa_nil))))
      (pss_one (ps_ret (pe_and (pe_cmpR (op_eqK K rfl hr.units) (pe_lc (own := [("k", 4)]) rfl sc_law_same.nd (pi_range2 (by rfl) T.range (pa_cons (pe_op op_subX (pe_op op_subX (pe_callB (cr_minK' K rfl rfl) (by rfl) T2.min (by decide +kernel) (pa_cons (pv 3) pa_nil)) pe_int) (pe_callB call_absX (by rfl) T.abs (by decide +kernel) (pa_cons (pv 1) pa_nil))) (pa_cons (pe_op (op_addK K rfl) (pe_op (op_addK K rfl) (pe_callB (cr_maxK' K rfl rfl) (by rfl) T2.max (by decide +kernel) (pa_cons (pv 3) pa_nil)) pe_int) (pe_callB call_absX (by rfl) T.abs (by decide +kernel) (pa_cons (pv 1) pa_nil))) pa_nil))) (blkOk_by (N := N_law_same) (sc := defScope s_law_same) (by decide +kernel)) (fun _ _ _ _ _ => (pg_name (i := 4) sc_law_same.nd rfl (by first | exact Or.inl rfl | exact Or.inr rfl))) (fun _ _ _ _ _ => pts_one (pt_cmpR (op_neK K rfl hr.units) (pe_md 0 Md_Tape_at (by first | decide | simp) (pv 0) (hr.mono (by decide)) passL (pa_cons (pe_op op_subX (pv 4) (pv 1)) pa_nil)) (pe_dget2 (u1 hr.units) (pv 2) (pv 4) pe_int ⟨rfl, rfl, rfl, rfl⟩) (nomark _))) (fun _ _ _ _ _ => (pv 4))) (pe_lst pa_nil) (nomark _)) (pe_one (pe_cmpR (op_eqK K rfl hr.units) (pe_md0 Md_Tape_ones (pv 0) (hr.mono (by decide)) pE) (pe_callB (call_lenK K rfl) (by rfl) T.len (by decide +kernel) (pa_cons (pe_lk (pe_lc (own := [("k", 4)]) rfl sc_law_same.nd (pi_keys (pv 2)) (blkOk_by (N := N_law_same) (sc := defScope s_law_same) (by decide +kernel)) (fun _ _ _ _ _ => (pg_name (i := 4) sc_law_same.nd rfl (by first | exact Or.inl rfl | exact Or.inr rfl))) (fun _ _ _ _ _ => pts_one (pt_cmpR (op_neK K rfl hr.units) (pe_dget (u1 hr.units) (pv 2) (pv 4) (fun _ _ => rfl)) pe_int (nomark _))) (fun _ _ _ _ _ => (pv 4)))) pa_nil)) (nomark _))))))), ?_⟩
  try simp only [cxOf_K]
  rintro ds Φ Ψ ⟨t, p, kvs, rfl, rel, q⟩
  clear hr tE pE
  walk_at "nl"
  refine rc_listK (ks := (kd kvs).map (·.1)) (ds := (kd kvs).map (·.2)) ?_
  have kl : (keys kvs).length = kvs.length := List.length_map _
  have len := rel.len
  have pb := rel.pb
  rw [keys_kd]
  refine rd_addL (small (by rw [dI_len]; simp; omega)) ?_
  rw [show [Dt.int 0] ++ dI (keys kvs) = dI (0 :: keys kvs) from rfl]
  have mem : ∀ x ∈ (0 :: keys kvs), -12 ≤ x ∧ x ≤ 12 := fun x hx => by
    rcases List.mem_cons.mp hx with h | h
    · omega
    · have := rel.kb x h
      omega
  have ok : t.ok := ⟨by have := rel.ll; omega, by have := rel.lr; omega⟩
  walk_at "nl"
  refine w_lcF rfl (tgt_name (by simp)) (fun _ => false) id (i_rng2 ?_)
  walk_at "nl"
  refine rc_min (ns := 0 :: keys kvs) (by simp) fun m1 hm1 _ => ?_
  walk_at "nl"
  refine rc_max (ns := 0 :: keys kvs) (by simp) fun m2 hm2 _ => ?_
  walk_at "nl"
  have := mem m1 hm1
  have := mem m2 hm2
  refine ⟨_, _, rfl, ⟨by split <;> omega, by split <;> omega, by split <;> omega, by split <;> omega⟩, small (by rw [rngD_len]; split <;> omega), fun i d ed => ?_, ?_⟩
  · obtain ⟨x, rfl⟩ := rng_at ed
    walk_at "nl"
    refine ⟨t, x - p, rfl, ok, ?_⟩
    refine w_dget2 ?_
    walk_at "nl"
    refine ⟨_, _, rfl, ?_⟩
    walk_at "nl"
    rw [dget_kd, ig_getD, rel.sg]
    walk_at "nl"
    simp only [decide_true, Bool.not_true]
    trivial
  · walk_at "nl"
    rw [List.filter_eq_nil_iff.mpr (by simp)]
    refine rd_eqE (eqe_lst eqe_int) (by decide) [] [] ?_
    rw [decide_eq_true (rfl : ([] : List Int) = [])]
    walk_at "nl"
    refine ⟨t, rfl, ok, ?_⟩
    walk_at "nl"
    refine w_lcDF dw_keys (v_var (d := .dK ((kd kvs).map (·.1)) ((kd kvs).map (·.2))) rfl) rfl (tgt_name (by simp)) (small (by simp [kd_len]; omega)) (fun d => match d with | .int i => !decide (ig kvs i = 0) | _ => false) id (fun i d ed => ?_) ?_
    · rw [keys_kd] at ed
      obtain ⟨x, ex, rfl⟩ := dI_at ed
      walk_at "nl"
      refine w_dget ?_
      walk_at "nl"
      refine ⟨_, _, rfl, ?_⟩
      walk_at "nl"
      refine ⟨_, _, rfl, (dget_kd x kvs).trans (ig_in (List.mem_of_getElem? ex)), ?_⟩
      walk_at "nl"
      refine ite_nb (fun h => ?_) fun h => ?_
      · walk_at "nl"
        rfl
      · rfl
    · rw [keys_kd, List.map_id, filt_dI (fun i => !decide (ig kvs i = 0)) _ (fun i => rfl)]
      walk_at "nl"
      rw [dI_len]
      have e : t.ones = ((keys kvs).filter fun i => !decide (ig kvs i = 0)).length := rel.one
      rw [e]
      simp only [decide_true]
      exact q

end
end TW
namespace TW
open PySem L2 Evl DL
theorem at_dI {xs : List Int} {i : Nat} (h : i < xs.length) : L2.atI (dI xs) (i : Int) = some (.int (ra xs i)) := by
  unfold L2.atI L2.ixN
  rw [dI_len, if_pos (by omega), if_pos (by omega)]
  have e : (dI xs)[((i : Int)).toNat]? = some (.int xs[i]) := by
    rw [Int.toNat_natCast]
    exact dI_get (List.getElem?_eq_getElem h)
  unfold ra
  rw [List.getElem?_eq_getElem h]
  exact e
/-- the table of a tape is being built -/
structure Prt (t : Tp) (i j : Nat) (kvs : List (Int × Int)) : Prop where
  sg : ∀ k : Int, ig kvs k = if -(i : Int) ≤ k ∧ k ≤ j then t.at k else 0
  nd : (keys kvs).Nodup
  kb : ∀ k ∈ keys kvs, -(i : Int) ≤ k ∧ k ≤ j
  one : cnt kvs = nz (t.l.take i) + b1 t.h + nz (t.r.take j)
  len : kvs.length ≤ 1 + i + j
theorem Prt.zero (t : Tp) : Prt t 0 0 (iput [] 0 t.h) := by
  refine ⟨fun k => ?_, put_nd (by simp [keys]), fun k hk => ?_, ?_, by have := put_len [] 0 t.h; simpa using this⟩
  · rw [ig_put]
    by_cases e : k = 0
    · rw [if_pos e, if_pos (by omega), e, at_0]
    · rw [if_neg e, if_neg (by omega)]
      rfl
  · rcases put_mem hk with h | h
    · simp [keys] at h
    · omega
  · have := cnt_put (kvs := []) (k := 0) (v := t.h) (by simp [keys])
    simp only [List.take_zero, nz_nil]
    have e : ig [] 0 = 0 := rfl
    have e2 : cnt [] = 0 := rfl
    rw [e, e2, show b1 0 = 0 from rfl] at this
    omega
theorem nz_take {xs : List Int} {i : Nat} (h : i < xs.length) : nz (xs.take (i + 1)) = nz (xs.take i) + b1 (ra xs i) := by
  rw [List.take_succ_eq_append_getElem h, nz_app, nz_one]
  unfold ra
  rw [List.getElem?_eq_getElem h]
  rfl
theorem Prt.left {t : Tp} {i : Nat} {kvs : List (Int × Int)} (p : Prt t i 0 kvs) (h : i < t.l.length) : Prt t (i + 1) 0 (iput kvs (0 - 1 - (i : Int)) (ra t.l i)) := by
  have e0 : ig kvs (0 - 1 - (i : Int)) = 0 := by rw [p.sg, if_neg (by omega)]
  refine ⟨fun k => ?_, put_nd p.nd, fun k hk => ?_, ?_, by have := put_len kvs (0 - 1 - (i : Int)) (ra t.l i); have := p.len; omega⟩
  · rw [ig_put]
    by_cases e : k = 0 - 1 - (i : Int)
    · rw [if_pos e, if_pos (by omega), e, show 0 - 1 - (i : Int) = -((i : Int) + 1) by omega, at_n]
    · rw [if_neg e, p.sg]
      by_cases q : -(i : Int) ≤ k ∧ k ≤ ((0 : Nat) : Int)
      · rw [if_pos q, if_pos (by omega)]
      · rw [if_neg q, if_neg (by omega)]
  · rcases put_mem hk with h | h
    · have := p.kb k h
      omega
    · omega
  · have := cnt_put (k := 0 - 1 - (i : Int)) (v := ra t.l i) p.nd
    rw [e0, show b1 0 = 0 from rfl] at this
    have := p.one
    rw [nz_take h]
    omega
theorem Prt.right {t : Tp} {i j : Nat} {kvs : List (Int × Int)} (p : Prt t i j kvs) (h : j < t.r.length) : Prt t i (j + 1) (iput kvs (1 + (j : Int)) (ra t.r j)) := by
  have e0 : ig kvs (1 + (j : Int)) = 0 := by rw [p.sg, if_neg (by omega)]
  refine ⟨fun k => ?_, put_nd p.nd, fun k hk => ?_, ?_, by have := put_len kvs (1 + (j : Int)) (ra t.r j); have := p.len; omega⟩
  · rw [ig_put]
    by_cases e : k = 1 + (j : Int)
    · rw [if_pos e, if_pos (by omega), e, show 1 + (j : Int) = (j : Int) + 1 by omega, at_p]
    · rw [if_neg e, p.sg]
      by_cases q : -(i : Int) ≤ k ∧ k ≤ (j : Int)
      · rw [if_pos q, if_pos (by omega)]
      · rw [if_neg q, if_neg (by omega)]
  · rcases put_mem hk with h | h
    · have := p.kb k h
      omega
    · omega
  · have := cnt_put (k := 1 + (j : Int)) (v := ra t.r j) p.nd
    rw [e0, show b1 0 = 0 from rfl] at this
    have := p.one
    rw [nz_take h]
    omega
theorem ra_out {xs : List Int} {i : Nat} (h : xs.length ≤ i) : ra xs i = 0 := by
  unfold ra
  rw [List.getElem?_eq_none h]
  rfl
theorem Prt.rel {t : Tp} {kvs : List (Int × Int)} (p : Prt t t.l.length t.r.length kvs) (g : t.G) (h1 : t.l.length ≤ 3) (h2 : t.r.length ≤ 3) : Rel 0 t 0 kvs := by
  refine ⟨g, h1, h2, by omega, fun k => ?_, ?_, p.nd, fun k hk => ?_, by have := p.len; omega⟩
  · rw [Int.sub_zero, p.sg]
    split
    · rfl
    · rename_i q
      rcases int3 k with rfl | ⟨n, rfl⟩ | ⟨n, rfl⟩
      · exact (q (by omega)).elim
      · rw [at_p, ra_out (by omega)]
      · rw [at_n, ra_out (by omega)]
  · have := p.one
    rw [List.take_length, List.take_length] at this
    rw [ones_eq, this]
  · have := p.kb k hk
    omega
end TW
namespace TW
open PySem L2 Evl DL TL
/-! texts of tapes -/
def nat' (i : Int) : Nat := i.toNat
theorem fig_tl {i : Int} (h0 : 0 ≤ i) (h9 : i ≤ 9) : tl (Str.ofString (toString i)) = [48 + i.toNat] := by
  have e : i = ((i.toNat : Nat) : Int) := (Int.toNat_of_nonneg h0).symm
  conv => lhs; rw [e]
  rw [fig_text (by omega)]
theorem figs_tl : ∀ {ns : List Int}, (∀ x ∈ ns, 0 ≤ x ∧ x ≤ 9) → tl (figs ns) = (ns.map Int.toNat).map (48 + ·) := by
  intro ns h
  unfold figs
  rw [tl_join0 rfl, List.map_map, List.map_map]
  induction ns with
  | nil => rfl
  | cons x r ih =>
    rw [List.map_cons, List.flatten_cons, ih fun y hy => h y (List.mem_cons_of_mem _ hy), List.map_cons]
    have hx := h x List.mem_cons_self
    have e : (tl ∘ fun i => (Str.ofString (toString i))) x = [48 + x.toNat] := fig_tl hx.1 hx.2
    rw [e]
    rfl
theorem nI_nat {ns : List Int} (h : ∀ x ∈ ns, 0 ≤ x) : nI (ns.map Int.toNat) = ns := by
  unfold nI
  rw [List.map_map]
  conv => rhs; rw [← List.map_id ns]
  exact List.map_congr_left fun x hx => Int.toNat_of_nonneg (h x hx)
theorem split_inj {k : Nat} : ∀ {a b c d : List Nat}, k ∉ a → k ∉ c → a ++ k :: b = c ++ k :: d → a = c ∧ b = d
  | [], b, [], d, _, _, h => ⟨rfl, by simpa using h⟩
  | [], b, y :: c, d, _, h2, h => by
    have : k = y := by simpa using (List.cons.inj h).1
    exact (h2 (by rw [this]; simp)).elim
  | x :: a, b, [], d, h1, _, h => by
    have : x = k := by simpa using (List.cons.inj h).1
    exact (h1 (by rw [this]; simp)).elim
  | x :: a, b, y :: c, d, h1, h2, h => by
    obtain ⟨e1, e2⟩ := List.cons.inj h
    obtain ⟨f1, f2⟩ := split_inj (fun q => h1 (List.mem_cons_of_mem _ q)) (fun q => h2 (List.mem_cons_of_mem _ q)) e2
    exact ⟨by rw [e1, f1], f2⟩
theorem fig_no {l : List Nat} (h : ∀ x ∈ l, x < 10) : 91 ∉ l.map (48 + ·) := fun q => by
  obtain ⟨x, hx, e⟩ := List.mem_map.mp q
  have := h x hx
  omega
theorem map_inj {l l' : List Nat} (h : l.map (48 + ·) = l'.map (48 + ·)) : l = l' := by
  have := congrArg (List.map (· - 48)) h
  rw [List.map_map, List.map_map] at this
  have e : ((fun x => x - 48) ∘ fun x : Nat => 48 + x) = _root_.id := by funext x; simp
  rw [e, List.map_id, List.map_id] at this
  exact this
theorem rt_one {s : Str} {l l' r r' : List Nat} {c c' : Nat} (h : RT s l c r) (h' : RT s l' c' r') : l' = l ∧ c' = c ∧ r' = r := by
  have e := h'.e.symm.trans h.e
  obtain ⟨e1, e2⟩ := split_inj (fig_no h'.l) (fig_no h.l) e
  have e3 := (List.cons.inj e2).1
  have e4 := (List.cons.inj (List.cons.inj e2).2).2
  exact ⟨map_inj e1, by omega, map_inj e4⟩
theorem word_of {t : Tp} {x : Int} : (x ∈ t.l → x ∈ t.word) ∧ t.h ∈ t.word ∧ (x ∈ t.r → x ∈ t.word) := by
  unfold Tp.word
  simp only [List.mem_append, List.mem_reverse, List.mem_singleton]
  exact ⟨fun h => .inl (.inl h), by simp, fun h => .inr h⟩
structure Sm (t : Tp) : Prop where
  l : ∀ x ∈ t.l, 0 ≤ x ∧ x ≤ 9
  h : 0 ≤ t.h ∧ t.h ≤ 9
  r : ∀ x ∈ t.r, 0 ≤ x ∧ x ≤ 9
theorem sm_of {t : Tp} (g : t.G) (h : ∀ x ∈ t.word, x < 3) : Sm t :=
  ⟨fun x hx => ⟨g.nl x hx, by have := h x (word_of.1 hx); omega⟩, ⟨g.nh, by have := h _ (word_of (x := 0)).2.1; omega⟩, fun x hx => ⟨g.nr x hx, by have := h x (word_of.2.2 hx); omega⟩⟩
theorem text_tl {t : Tp} (s : Sm t) : tl t.text = ((t.l.reverse.map Int.toNat).map (48 + ·)) ++ 91 :: (48 + t.h.toNat) :: 93 :: (t.r.map Int.toNat).map (48 + ·) := by
  unfold Tp.text
  rw [tl_append, tl_append, tl_append, tl_append, figs_tl (fun x hx => s.l x (List.mem_reverse.mp hx)), figs_tl s.r, fig_tl s.h.1 s.h.2, show tl (Str.ofString "[") = [91] by decide +kernel, show tl (Str.ofString "]") = [93] by decide +kernel]
  simp
theorem lt10 {ns : List Int} (h : ∀ x ∈ ns, 0 ≤ x ∧ x ≤ 9) : ∀ x ∈ ns.map Int.toNat, x < 10 := fun x hx => by
  obtain ⟨y, hy, e⟩ := List.mem_map.mp hx
  have := h y hy
  omega
theorem rt_text {t : Tp} (s : Sm t) : RT t.text (t.l.reverse.map Int.toNat) t.h.toNat (t.r.map Int.toNat) :=
  ⟨text_tl s, lt10 fun x hx => s.l x (List.mem_reverse.mp hx), by have := s.h; omega, lt10 s.r⟩
theorem rt_text2 {t : Tp} (s : Sm t) : RT ((Str.ofString "00") ++ t.text ++ (Str.ofString "0")) (0 :: 0 :: t.l.reverse.map Int.toNat) t.h.toNat (t.r.map Int.toNat ++ [0]) := by
  refine ⟨?_, fun x hx => ?_, by have := s.h; omega, fun x hx => ?_⟩
  · rw [tl_append, tl_append, text_tl s, show tl (Str.ofString "00") = [48, 48] by decide +kernel, show tl (Str.ofString "0") = [48] by decide +kernel]
    simp
  · simp only [List.mem_cons] at hx
    rcases hx with rfl | rfl | hx
    · decide
    · decide
    · exact lt10 (fun x hx => s.l x (List.mem_reverse.mp hx)) x hx
  · rcases List.mem_append.mp hx with hx | hx
    · exact lt10 s.r x hx
    · rw [List.mem_singleton.mp hx]; decide
theorem read_text {t : Tp} (g : t.G) (s : Sm t) {l r : List Nat} {c : Nat} (h : RT t.text l c r) : Tp.mk' (nI l).reverse c (nI r) = t := by
  obtain ⟨rfl, rfl, rfl⟩ := rt_one (rt_text s) h
  rw [nI_nat (fun x hx => (s.l x (List.mem_reverse.mp hx)).1), nI_nat (fun x hx => (s.r x hx).1), List.reverse_reverse, Int.toNat_of_nonneg s.h.1, Tp.mk_G g]
theorem nI_app (a b : List Nat) : nI (a ++ b) = nI a ++ nI b := List.map_append
theorem read_text2 {t : Tp} (g : t.G) (s : Sm t) {l r : List Nat} {c : Nat} (h : RT ((Str.ofString "00") ++ t.text ++ (Str.ofString "0")) l c r) : Tp.mk' (nI l).reverse c (nI r) = t := by
  obtain ⟨rfl, rfl, rfl⟩ := rt_one (rt_text2 s) h
  have e1 : nI (0 :: 0 :: t.l.reverse.map Int.toNat) = [0, 0] ++ t.l.reverse := by
    rw [show 0 :: 0 :: t.l.reverse.map Int.toNat = [0, 0] ++ t.l.reverse.map Int.toNat from rfl, nI_app, nI_nat (fun x hx => (s.l x (List.mem_reverse.mp hx)).1)]
    rfl
  have e2 : nI (t.r.map Int.toNat ++ [0]) = t.r ++ [0] := by
    rw [nI_app, nI_nat (fun x hx => (s.r x hx).1)]
    rfl
  rw [e1, e2, List.reverse_append, List.reverse_reverse, Int.toNat_of_nonneg s.h.1]
  have e3 : trim (t.l ++ [0, 0].reverse) = t.l := by
    rw [show t.l ++ [0, 0].reverse = (t.l ++ [0]) ++ [0] by simp, trim_zero, trim_zero, g.l]
  have e4 : trim (t.r ++ [0]) = t.r := by rw [trim_zero, g.r]
  unfold Tp.mk'
  rw [e3, e4]
theorem text_len {t : Tp} (s : Sm t) : t.text.length = t.l.length + t.r.length + 3 := by
  rw [len_tl, text_tl s]
  simp
  omega
end TW
namespace TW
open PySem L2 Evl DL TL
/-! where a sign stands in a text -/
def places (k : Nat) : List Nat → Nat → List Nat
  | [], _ => []
  | x :: r, i => if x = k then i :: places k r (i + 1) else places k r (i + 1)
theorem at_sub {s y : Str} {k x : Nat} {r : List Nat} {i : Nat} (ey : tl y = [k]) (h : (tl s).drop i = x :: r) : Builtin.Str.subAt s y i = decide (x = k) := by
  rw [StrLaws.subAt_eq]
  have e1 : y.length = 1 := by rw [len_tl, ey]; rfl
  have e2 : y.cps.toList = [k] := ey
  have e3 : s.cps.toList.drop i = x :: r := h
  rw [e1, e2, e3]
  show ([x] == [k]) = _
  by_cases q : x = k
  · rw [q]; simp
  · simp [q]
theorem occ_run {s y : Str} {k : Nat} (ey : tl y = [k]) (lim : Nat) : ∀ (L : List Nat) (i : Nat) (st : Array Nat × Nat), (tl s).drop i = L → i + L.length = s.length → st.2 ≤ i →
    (forIn (m := Id) (List.range' i (L.length + 1)) st (StrLaws.occBody s y s.length lim)).run.fst.toList = st.1.toList ++ (places k L i).take (lim - st.1.size) := by
  have e1 : y.length = 1 := by rw [len_tl, ey]; rfl
  intro L
  induction L with
  | nil =>
    intro i st hd hl h2
    show (forIn (m := Id) [i] st _).run.fst.toList = _
    rw [List.forIn_cons]
    unfold StrLaws.occBody
    rw [if_neg (by rintro ⟨⟨_, h⟩, _⟩; rw [e1] at h; simp at hl; omega)]
    simp [places]
  | cons x r ih =>
    intro i st hd hl h2
    rw [List.length_cons, List.range'_succ, List.forIn_cons]
    have hr : (tl s).drop (i + 1) = r := by
      rw [← List.drop_drop, hd]
      rfl
    have hl' : i + 1 + r.length = s.length := by rw [List.length_cons] at hl; omega
    unfold StrLaws.occBody
    rw [at_sub ey hd, e1]
    by_cases c : (st.fst.size < lim ∧ st.snd ≤ i) ∧ i + 1 ≤ s.length
    · by_cases q : x = k
      · rw [if_pos ⟨c, by rw [decide_eq_true q]⟩]
        have := ih (i + 1) (st.1.push i, i + 1) hr hl' (Nat.le_refl _)
        unfold StrLaws.occBody at this
        rw [e1] at this
        simp only [pure_bind]
        refine this.trans ?_
        have c1 := c.1.1
        simp only [Array.size_push, Array.toList_push, places, if_pos q]
        rw [show lim - st.1.size = (lim - (st.1.size + 1)) + 1 by omega, List.take_succ_cons, List.append_assoc]
        rfl
      · rw [if_neg (by rintro ⟨_, h⟩; exact q (of_decide_eq_true h))]
        have := ih (i + 1) st hr hl' (by omega)
        unfold StrLaws.occBody at this
        rw [e1] at this
        simp only [pure_bind]
        refine this.trans ?_
        simp only [places, if_neg q]
    · rw [if_neg (by rintro ⟨h, _⟩; exact c h)]
      have := ih (i + 1) st hr hl' (by omega)
      unfold StrLaws.occBody at this
      rw [e1] at this
      simp only [pure_bind]
      refine this.trans ?_
      have z : lim - st.1.size = 0 := by
        rcases Nat.lt_or_ge st.1.size lim with h | h
        · exact (c ⟨⟨h, h2⟩, by rw [List.length_cons] at hl; omega⟩).elim
        · omega
      rw [z, List.take_zero, List.take_zero]
theorem occ_places {s y : Str} {k : Nat} (ey : tl y = [k]) (lim : Nat) : Builtin.Str.occurrences s y 0 s.length lim = (places k (tl s) 0).take lim := by
  rw [StrLaws.occ_eq]
  have := occ_run (s := s) ey lim (tl s) 0 (#[], 0) rfl (by rw [len_tl]; omega) (Nat.le_refl _)
  rw [← len_tl] at this
  exact this
theorem places_len (k : Nat) : ∀ (L : List Nat) (i : Nat), (places k L i).length = L.count k
  | [], _ => rfl
  | x :: r, i => by
    unfold places
    by_cases q : x = k
    · rw [if_pos q, List.length_cons, places_len k r, q, List.count_cons_self]
    · rw [if_neg q, places_len k r, List.count_cons_of_ne q]
theorem places_none {k : Nat} : ∀ {L : List Nat} {i : Nat}, k ∉ L → places k L i = []
  | [], _, _ => rfl
  | x :: r, i, h => by
    unfold places
    rw [if_neg (fun e => h (by rw [e]; simp))]
    exact places_none fun q => h (List.mem_cons_of_mem _ q)
theorem places_hit {k : Nat} : ∀ {a b : List Nat} {i : Nat}, k ∉ a → ∃ r, places k (a ++ k :: b) i = (i + a.length) :: r
  | [], b, i, _ => ⟨places k b (i + 1), by show (if k = k then _ else _) = _; rw [if_pos rfl]; rfl⟩
  | x :: a, b, i, h => by
    obtain ⟨r, e⟩ := places_hit (a := a) (b := b) (i := i + 1) fun q => h (List.mem_cons_of_mem _ q)
    refine ⟨r, ?_⟩
    show (if x = k then _ else _) = _
    rw [if_neg (fun e => h (by rw [e]; simp))]
    refine (show places k (a ++ k :: b) (i + 1) = _ from e).trans ?_
    rw [List.length_cons]
    congr 1
    omega
theorem count_one {s y : Str} {k : Nat} (ey : tl y = [k]) : Txt.count s y = ((tl s).count k : Nat) := by
  show ((Builtin.Str.occurrences s y 0 s.length (s.length + 1)).length : Int) = _
  rw [occ_places ey, List.take_of_length_le, places_len]
  rw [places_len, len_tl]
  exact Nat.le_trans (List.count_le_length) (Nat.le_succ _)
theorem find_hit {s y : Str} {k : Nat} (ey : tl y = [k]) {a b : List Nat} (h : tl s = a ++ k :: b) (hk : k ∉ a) : Txt.find s y = (a.length : Nat) := by
  unfold Txt.find
  rw [occ_places ey, h]
  obtain ⟨r, e⟩ := places_hit (k := k) (a := a) (b := b) (i := 0) hk
  rw [e, Nat.zero_add]
  rfl
/-- the signs that the words are drawn of -/
def Abc (L : List Nat) : Prop := ∀ c ∈ L, c = 48 ∨ c = 49 ∨ c = 91 ∨ c = 93 ∨ c = 120
theorem count_split {k : Nat} {L : List Nat} (h : L.count k = 1) : ∃ a b, L = a ++ k :: b ∧ k ∉ a ∧ k ∉ b := by
  have m : k ∈ L := by
    refine Decidable.by_contra fun q => ?_
    rw [List.count_eq_zero.mpr q] at h
    cases h
  obtain ⟨a, b, e, ha⟩ := first_split m
  refine ⟨a, b, e, ha, fun q => ?_⟩
  rw [e, List.count_append, List.count_cons_self, List.count_eq_zero.mpr ha] at h
  have := List.count_pos_iff.mpr q
  omega
theorem figs_of {L : List Nat} (h : ∀ c ∈ L, c = 48 ∨ c = 49) : ∃ l : List Nat, L = l.map (48 + ·) ∧ ∀ x ∈ l, x < 10 := by
  refine ⟨L.map (· - 48), ?_, fun x hx => ?_⟩
  · rw [List.map_map]
    conv => lhs; rw [← List.map_id L]
    refine List.map_congr_left fun c hc => ?_
    rcases h c hc with rfl | rfl <;> rfl
  · obtain ⟨c, hc, rfl⟩ := List.mem_map.mp hx
    rcases h c hc with rfl | rfl <;> decide
/-- when a drawn word is a tape's text -/
theorem good_iff {s y1 y2 : Str} (e1 : tl y1 = [91]) (e2 : tl y2 = [93]) (ab : Abc (tl s)) : ((Txt.count s y1 = 1 ∧ Txt.count s y2 = 1 ∧ 120 ∉ tl s) ∧ Txt.find s y2 = Txt.find s y1 + 2) ↔ ∃ l c r, RT s l c r := by
  rw [count_one e1, count_one e2]
  constructor
  · rintro ⟨⟨h1, h2, h3⟩, h4⟩
    obtain ⟨a, b, ea, na, nb⟩ := count_split (k := 91) (L := tl s) (by omega)
    obtain ⟨a', b', ea', na', nb'⟩ := count_split (k := 93) (L := tl s) (by omega)
    rw [find_hit e2 ea' na', find_hit e1 ea na] at h4
    have hl : a'.length = a.length + 2 := by omega
    have e0 := ea.symm.trans ea'
    have t0 : a'.take a.length = a := by
      have := congrArg (List.take a.length) e0
      rw [List.take_left, List.take_append_of_le_length (by omega)] at this
      exact this.symm
    have d0 : b = (a'.drop a.length ++ 93 :: b').drop 1 := by
      have := congrArg (List.drop a.length) e0
      rw [List.drop_left, List.drop_append_of_le_length (by omega)] at this
      rw [← this]
      rfl
    have lx : (a'.drop a.length).length = 2 := by rw [List.length_drop]; omega
    obtain ⟨u, v, huv⟩ : ∃ u v, a'.drop a.length = [u, v] := by
      match q : a'.drop a.length, lx with
      | [u, v], _ => exact ⟨u, v, rfl⟩
    rw [huv] at d0
    have eb : b = v :: 93 :: b' := d0
    have es : tl s = a ++ 91 :: v :: 93 :: b' := by rw [ea, eb]
    have na93 : 93 ∉ a := fun q => na' (by rw [← t0] at q; exact List.mem_of_mem_take q)
    have in1 : ∀ c ∈ a, c = 48 ∨ c = 49 := fun c hc => by
      rcases ab c (by rw [es]; simp [hc]) with h | h | h | h | h
      · exact .inl h
      · exact .inr h
      · exact (na (by rw [← h]; exact hc)).elim
      · exact (na93 (by rw [← h]; exact hc)).elim
      · exact (h3 (by rw [← h, es]; simp [hc])).elim
    have in2 : ∀ c ∈ b', c = 48 ∨ c = 49 := fun c hc => by
      rcases ab c (by rw [es]; simp [hc]) with h | h | h | h | h
      · exact .inl h
      · exact .inr h
      · exact (nb (by rw [← h, eb]; simp [hc])).elim
      · exact (nb' (by rw [← h]; exact hc)).elim
      · exact (h3 (by rw [← h, es]; simp [hc])).elim
    have inv : v = 48 ∨ v = 49 := by
      rcases ab v (by rw [es]; simp) with h | h | h | h | h
      · exact .inl h
      · exact .inr h
      · exact (nb (by rw [← h, eb]; simp)).elim
      · refine (na' ?_).elim
        rw [← h]
        have : v ∈ a'.drop a.length := by rw [huv]; simp
        exact List.mem_of_mem_drop this
      · exact (h3 (by rw [← h, es]; simp)).elim
    obtain ⟨l, hl1, hl2⟩ := figs_of in1
    obtain ⟨r, hr1, hr2⟩ := figs_of in2
    refine ⟨l, v - 48, r, ⟨?_, hl2, by omega, hr2⟩⟩
    rw [es, hl1, hr1, show 48 + (v - 48) = v by omega]
  · rintro ⟨l, c, r, h⟩
    have d : ∀ {L : List Nat}, (∀ x ∈ L, x < 10) → ∀ k, 58 ≤ k → k ∉ L.map (48 + ·) := fun {L} hL k hk q => by
      obtain ⟨x, hx, e⟩ := List.mem_map.mp q
      have := hL x hx
      omega
    have hc := h.c
    have n1 := d h.l 91 (by decide)
    have n2 := d h.r 91 (by decide)
    have n3 := d h.l 93 (by decide)
    have n4 := d h.r 93 (by decide)
    have n5 := d h.l 120 (by decide)
    have n6 := d h.r 120 (by decide)
    have f1 := find_hit e1 h.e n1
    have e' : tl s = (l.map (48 + ·) ++ [91, 48 + c]) ++ 93 :: r.map (48 + ·) := by rw [h.e]; simp
    have n7 : 93 ∉ l.map (48 + ·) ++ [91, 48 + c] := fun q => by
      rcases List.mem_append.mp q with q | q
      · exact n3 q
      · simp at q
        omega
    have f2 := find_hit e2 e' n7
    refine ⟨⟨?_, ?_, fun q => ?_⟩, ?_⟩
    · rw [h.e, List.count_append, List.count_cons_self, List.count_cons_of_ne (by omega), List.count_cons_of_ne (by omega), List.count_eq_zero.mpr n1, List.count_eq_zero.mpr n2]
      rfl
    · rw [h.e, List.count_append, List.count_cons_of_ne (by omega), List.count_cons_of_ne (by omega), List.count_cons_self, List.count_eq_zero.mpr n3, List.count_eq_zero.mpr n4]
      rfl
    · rw [h.e] at q
      rcases List.mem_append.mp q with q | q
      · exact n5 q
      · simp only [List.mem_cons] at q
        rcases q with q | q | q | q
        · omega
        · omega
        · omega
        · exact n6 q
    · rw [f1, f2, List.length_append]
      rfl
end TW
namespace TW
open PySem L2 Evl DL
local macro_rules | `(tactic| walk_at "d1") => `(tactic| with_reducible first
  | refine s_seq ?_
  | refine iteT ?_
  | refine iteF ?_
  | refine s_asg ?_
  | refine g_nm rfl rfl ?_
  | refine s_if ?_
  | refine s_ret ?_
  | refine s_next ?_
  | refine s_retN ?_
  | refine s_drop ?_
  | refine s_brk ?_
  | refine s_cont ?_
  | refine s_aug1 rfl rfl ?_
  | refine s_fldO ?_
  | refine Exists.intro _ (Exists.intro _ (Exists.intro _ (And.intro rfl (And.intro (by assumption) (And.intro (by assumption) (And.intro (by decide) ?_))))))
  | refine w_var rfl ?_
  | refine w_int ?_
  | refine w_str ?_
  | refine w_bl ?_
  | refine w_non ?_
  | refine t_cmp ?_
  | refine rd_ixO rfl rfl ?_
  | refine w_op ?_
  | refine w_un ?_
  | refine w_chain ?_
  | refine t_test ?_
  | refine t_B ?_
  | refine t_not ?_
  | refine t_and ?_
  | refine t_or ?_
  | refine w_andV ?_
  | refine w_orV ?_
  | refine w_notV ?_
  | refine w_if ?_
  | refine w_tup ?_
  | refine w_lst ?_
  | refine w_isiInt ?_
  | refine w_rev ?_
  | refine w_cb ?_
  | refine w_sl ?_
  | refine w_join ?_
  | refine t_yes ?_
  | refine w_m1 ?_
  | refine rj_find ?_
  | refine rj_count ?_
  | refine w_joined ?_
  | refine a_nil ?_
  | refine a_cons ?_
  | refine o_none ?_
  | refine o_some ?_
  | refine g_tup rfl ?_
  | refine g_setO rfl rfl ?_
  | refine gs_nil ?_
  | refine gs_cons ?_
  | refine j_nil ?_
  | refine j_cons ?_
  | refine rd_lt ?_
  | refine rd_le ?_
  | refine rd_gt ?_
  | refine rd_ge ?_
  | refine rd_sub ?_
  | refine rd_mod (by first | decide | assumption) ?_
  | refine rd_div (by first | decide | (constructor <;> omega)) ?_
  | refine rd_mulR (by decide) ?_
  | refine rd_powC (by decide) ?_
  | refine rd_addI ?_
  | refine rd_eqI ?_
  | refine rd_neI ?_
  | refine rd_eqS ?_
  | refine rd_neS ?_
  | refine rd_eqB ?_
  | refine rd_neB ?_
  | refine rd_ipa ?_
  | refine rd_ips ?_
  | refine ru_neg ?_
  | refine rx_lenT ?_
  | refine rx_lenL ?_
  | refine rx_abs ?_
  | refine rc_intI ?_
  | refine rc_intB ?_
  | refine rc_tupT ?_
  | refine rc_tupL ?_
  | refine rc_tupR ?_
  | refine rs_tup ?_
  | refine rs_lst ?_
  | refine w_fldO rfl (by assumption) (by assumption) rfl ?_
  | refine w_fldV rfl (by assumption) (by assumption) rfl ?_
  | refine w_fld ?_
  | refine Exists.intro _ (And.intro rfl ?_)
  | refine Exists.intro _ (Exists.intro _ (Exists.intro _ (Exists.intro _ (And.intro rfl (And.intro (by assumption) (And.intro (by assumption) (And.intro (by rfl) ?_)))))))
  | refine w_callI (dds := []) (fun _ => .nil) (Exists.intro _ rfl) ?_
  | refine w_callI0 (dds := []) (fun _ => .nil) (Exists.intro _ rfl) ?_
  | refine w_call (dds := []) (fun _ => .nil) ?_
  | refine w_call0 (dds := []) (fun _ => .nil) ?_
  | refine w_make (dds := []) (fun _ => .nil) ?_
  | refine w_make0 (dds := []) (fun _ => .nil) ?_
  | refine w_meth (dds := []) (fun _ => .nil) ?_
  | refine w_meth0 (dds := []) (fun _ => .nil) ?_
  | refine And.intro (small (by simp only [List.length_cons, List.length_nil]; omega)) ?_
  | refine Exists.intro _ (Exists.intro _ (And.intro rfl (And.intro (by decide) ?_)))
  | refine Or.inl (Exists.intro _ (And.intro rfl ?_))
  | refine Or.inr (Exists.intro _ (And.intro rfl ?_))
  | refine And.intro rfl ?_)
local macro_rules | `(tactic| walk_at "dl") => `(tactic| repeat (first | walk_at "d1" | (dsimp only [onx, rets, lpe, rets1, List.cons_append, List.nil_append])))

local macro_rules | `(tactic| walk_at "n1") => `(tactic| with_reducible first
  | refine s_seq ?_
  | refine iteT ?_
  | refine iteF ?_
  | refine s_asg ?_
  | refine g_nm rfl rfl ?_
  | refine s_ret ?_
  | refine s_next ?_
  | refine s_retN ?_
  | refine s_drop ?_
  | refine s_brk ?_
  | refine s_cont ?_
  | refine s_aug1 rfl rfl ?_
  | refine s_fldO ?_
  | refine Exists.intro _ (Exists.intro _ (Exists.intro _ (And.intro rfl (And.intro (by assumption) (And.intro (by assumption) (And.intro (by decide) ?_))))))
  | refine w_var rfl ?_
  | refine w_int ?_
  | refine w_str ?_
  | refine w_bl ?_
  | refine w_non ?_
  | refine t_cmp ?_
  | refine rd_ixO rfl rfl ?_
  | refine w_op ?_
  | refine w_un ?_
  | refine w_chain ?_
  | refine t_test ?_
  | refine t_B ?_
  | refine t_not ?_
  | refine t_and ?_
  | refine t_or ?_
  | refine w_andV ?_
  | refine w_orV ?_
  | refine w_notV ?_
  | refine w_tup ?_
  | refine w_lst ?_
  | refine w_isiInt ?_
  | refine w_rev ?_
  | refine w_cb ?_
  | refine w_sl ?_
  | refine w_join ?_
  | refine t_yes ?_
  | refine w_m1 ?_
  | refine rj_find ?_
  | refine rj_count ?_
  | refine w_joined ?_
  | refine a_nil ?_
  | refine a_cons ?_
  | refine o_none ?_
  | refine o_some ?_
  | refine g_tup rfl ?_
  | refine g_setO rfl rfl ?_
  | refine gs_nil ?_
  | refine gs_cons ?_
  | refine j_nil ?_
  | refine j_cons ?_
  | refine rd_lt ?_
  | refine rd_le ?_
  | refine rd_gt ?_
  | refine rd_ge ?_
  | refine rd_sub ?_
  | refine rd_mod (by first | decide | assumption) ?_
  | refine rd_div (by first | decide | (constructor <;> omega)) ?_
  | refine rd_mulR (by decide) ?_
  | refine rd_powC (by decide) ?_
  | refine rd_addI ?_
  | refine rd_eqI ?_
  | refine rd_neI ?_
  | refine rd_eqS ?_
  | refine rd_neS ?_
  | refine rd_eqB ?_
  | refine rd_neB ?_
  | refine rd_ipa ?_
  | refine rd_ips ?_
  | refine ru_neg ?_
  | refine rx_lenT ?_
  | refine rx_lenL ?_
  | refine rx_abs ?_
  | refine rc_intI ?_
  | refine rc_intB ?_
  | refine rc_tupT ?_
  | refine rc_tupL ?_
  | refine rc_tupR ?_
  | refine rs_tup ?_
  | refine rs_lst ?_
  | refine w_fldO rfl (by assumption) (by assumption) rfl ?_
  | refine w_fldV rfl (by assumption) (by assumption) rfl ?_
  | refine w_fld ?_
  | refine Exists.intro _ (And.intro rfl ?_)
  | refine Exists.intro _ (Exists.intro _ (Exists.intro _ (Exists.intro _ (And.intro rfl (And.intro (by assumption) (And.intro (by assumption) (And.intro (by rfl) ?_)))))))
  | refine w_callI (dds := []) (fun _ => .nil) (Exists.intro _ rfl) ?_
  | refine w_callI0 (dds := []) (fun _ => .nil) (Exists.intro _ rfl) ?_
  | refine w_call (dds := []) (fun _ => .nil) ?_
  | refine w_call0 (dds := []) (fun _ => .nil) ?_
  | refine w_make (dds := []) (fun _ => .nil) ?_
  | refine w_make0 (dds := []) (fun _ => .nil) ?_
  | refine w_meth (dds := []) (fun _ => .nil) ?_
  | refine w_meth0 (dds := []) (fun _ => .nil) ?_
  | refine And.intro (small (by simp only [List.length_cons, List.length_nil]; omega)) ?_
  | refine Exists.intro _ (Exists.intro _ (And.intro rfl (And.intro (by decide) ?_)))
  | refine Or.inl (Exists.intro _ (And.intro rfl ?_))
  | refine Or.inr (Exists.intro _ (And.intro rfl ?_))
  | refine And.intro rfl ?_)
local macro_rules | `(tactic| walk_at "nl") => `(tactic| repeat (first | walk_at "n1" | (dsimp only [onx, rets, lpe, rets1, List.cons_append, List.nil_append])))

local macro_rules | `(tactic| walk_at "f1") => `(tactic| with_reducible first
  | refine s_seq ?_
  | refine iteT ?_
  | refine iteF ?_
  | refine s_asg ?_
  | refine g_nm rfl rfl ?_
  | refine s_ifF ?_
  | refine s_ret ?_
  | refine s_next ?_
  | refine s_retN ?_
  | refine s_drop ?_
  | refine s_brk ?_
  | refine s_cont ?_
  | refine s_aug1 rfl rfl ?_
  | refine s_fldO ?_
  | refine Exists.intro _ (Exists.intro _ (Exists.intro _ (And.intro rfl (And.intro (by assumption) (And.intro (by assumption) (And.intro (by decide) ?_))))))
  | refine w_var rfl ?_
  | refine w_int ?_
  | refine w_str ?_
  | refine w_bl ?_
  | refine w_non ?_
  | refine t_cmp ?_
  | refine rd_ixO rfl rfl ?_
  | refine w_op ?_
  | refine w_un ?_
  | refine w_chain ?_
  | refine t_test ?_
  | refine t_B ?_
  | refine t_not ?_
  | refine t_and ?_
  | refine t_orF ?_
  | refine w_andV ?_
  | refine w_orV ?_
  | refine w_notV ?_
  | refine w_tup ?_
  | refine w_lst ?_
  | refine w_isiInt ?_
  | refine w_rev ?_
  | refine w_cb ?_
  | refine w_sl ?_
  | refine w_join ?_
  | refine t_yes ?_
  | refine w_m1 ?_
  | refine rj_find ?_
  | refine rj_count ?_
  | refine w_joined ?_
  | refine a_nil ?_
  | refine a_cons ?_
  | refine o_none ?_
  | refine o_some ?_
  | refine g_tup rfl ?_
  | refine g_setO rfl rfl ?_
  | refine gs_nil ?_
  | refine gs_cons ?_
  | refine j_nil ?_
  | refine j_cons ?_
  | refine rd_lt ?_
  | refine rd_le ?_
  | refine rd_gt ?_
  | refine rd_ge ?_
  | refine rd_sub ?_
  | refine rd_mod (by first | decide | assumption) ?_
  | refine rd_div (by first | decide | (constructor <;> omega)) ?_
  | refine rd_mulR (by decide) ?_
  | refine rd_powC (by decide) ?_
  | refine rd_addI ?_
  | refine rd_eqI ?_
  | refine rd_neI ?_
  | refine rd_eqS ?_
  | refine rd_neS ?_
  | refine rd_eqB ?_
  | refine rd_neB ?_
  | refine rd_ipa ?_
  | refine rd_ips ?_
  | refine ru_neg ?_
  | refine rx_lenT ?_
  | refine rx_lenL ?_
  | refine rx_abs ?_
  | refine rc_intI ?_
  | refine rc_intB ?_
  | refine rc_tupT ?_
  | refine rc_tupL ?_
  | refine rc_tupR ?_
  | refine rs_tup ?_
  | refine rs_lst ?_
  | refine w_fldO rfl (by assumption) (by assumption) rfl ?_
  | refine w_fldV rfl (by assumption) (by assumption) rfl ?_
  | refine w_fld ?_
  | refine Exists.intro _ (And.intro rfl ?_)
  | refine Exists.intro _ (Exists.intro _ (Exists.intro _ (Exists.intro _ (And.intro rfl (And.intro (by assumption) (And.intro (by assumption) (And.intro (by rfl) ?_)))))))
  | refine w_callI (dds := []) (fun _ => .nil) (Exists.intro _ rfl) ?_
  | refine w_callI0 (dds := []) (fun _ => .nil) (Exists.intro _ rfl) ?_
  | refine w_call (dds := []) (fun _ => .nil) ?_
  | refine w_call0 (dds := []) (fun _ => .nil) ?_
  | refine w_make (dds := []) (fun _ => .nil) ?_
  | refine w_make0 (dds := []) (fun _ => .nil) ?_
  | refine w_meth (dds := []) (fun _ => .nil) ?_
  | refine w_meth0 (dds := []) (fun _ => .nil) ?_
  | refine And.intro (small (by simp only [List.length_cons, List.length_nil]; omega)) ?_
  | refine Exists.intro _ (Exists.intro _ (And.intro rfl (And.intro (by decide) ?_)))
  | refine Or.inl (Exists.intro _ (And.intro rfl ?_))
  | refine Or.inr (Exists.intro _ (And.intro rfl ?_))
  | refine And.intro rfl ?_)
local macro_rules | `(tactic| walk_at "fl") => `(tactic| repeat (first | walk_at "f1" | (dsimp only [onx, rets, lpe, rets1, List.cons_append, List.nil_append])))
abbrev s_law_told : Stmt := top 25
abbrev N_law_told : List Str := ["what"]
abbrev P_law_told : List Str := ["what"]
theorem sc_law_told : FnScope N_law_told P_law_told (defScope s_law_told) := ⟨rfl, rfl, rfl, by decide +kernel, rfl, by decide +kernel, by decide +kernel⟩
abbrev s_law : Stmt := top 28
abbrev N_law : List Str := ["script", "dice", "tape", "cells", "place", "k", "turn", "sign", "way", "left", "here", "right", "full", "text", "back", "row", "spot", "made", "ends", "word", "good", "wrong", "pair"]
abbrev P_law : List Str := ["script"]
theorem sc_law : FnScope N_law P_law (defScope s_law) := ⟨rfl, rfl, rfl, by decide +kernel, rfl, by decide +kernel, by decide +kernel⟩

def forBody : Stmt → List Stmt
  | .For _ _ b _ _ => b
  | _ => []
abbrev lawB : List Stmt := defBody s_law
abbrev dayB : List Stmt := forBody (lawB.getD 0 (.Pass ⟨0, 0, 0, 0⟩))
def tryH : List Stmt → List ExceptHandler
  | .Try _ hs _ _ _ :: _ => hs
  | _ => []
abbrev toldH : List ExceptHandler := tryH (defBody s_law_told)
abbrev toldH0 : ExceptHandler := toldH.getD 0 (.ExceptHandler none none [] ⟨0, 0, 0, 0⟩)
theorem told_body : ∃ p1 p2 p3 p8, defBody s_law_told = [.Try [.Return (some (.Call (.Name "what" p1) [] [] p2)) p3] (toldH0 :: toldH.drop 1) [] [] p8] := ⟨_, _, _, _, rfl⟩
end TW
namespace TW
open PySem L2 Evl DL
local macro_rules | `(tactic| walk_at "d1") => `(tactic| with_reducible first
  | refine s_seq ?_
  | refine iteT ?_
  | refine iteF ?_
  | refine s_asg ?_
  | refine g_nm rfl rfl ?_
  | refine s_if ?_
  | refine s_ret ?_
  | refine s_next ?_
  | refine s_retN ?_
  | refine s_drop ?_
  | refine s_brk ?_
  | refine s_cont ?_
  | refine s_aug1 rfl rfl ?_
  | refine s_fldO ?_
  | refine Exists.intro _ (Exists.intro _ (Exists.intro _ (And.intro rfl (And.intro (by assumption) (And.intro (by assumption) (And.intro (by decide) ?_))))))
  | refine w_var rfl ?_
  | refine w_int ?_
  | refine w_str ?_
  | refine w_bl ?_
  | refine w_non ?_
  | refine t_cmp ?_
  | refine rd_ixO rfl rfl ?_
  | refine w_op ?_
  | refine w_un ?_
  | refine w_chain ?_
  | refine t_test ?_
  | refine t_B ?_
  | refine t_not ?_
  | refine t_and ?_
  | refine t_or ?_
  | refine w_andV ?_
  | refine w_orV ?_
  | refine w_notV ?_
  | refine w_if ?_
  | refine w_tup ?_
  | refine w_lst ?_
  | refine w_isiInt ?_
  | refine w_rev ?_
  | refine w_cb ?_
  | refine w_sl ?_
  | refine w_join ?_
  | refine t_yes ?_
  | refine w_m1 ?_
  | refine rj_find ?_
  | refine rj_count ?_
  | refine w_joined ?_
  | refine a_nil ?_
  | refine a_cons ?_
  | refine o_none ?_
  | refine o_some ?_
  | refine g_tup rfl ?_
  | refine g_setO rfl rfl ?_
  | refine gs_nil ?_
  | refine gs_cons ?_
  | refine j_nil ?_
  | refine j_cons ?_
  | refine rd_lt ?_
  | refine rd_le ?_
  | refine rd_gt ?_
  | refine rd_ge ?_
  | refine rd_sub ?_
  | refine rd_mod (by first | decide | assumption) ?_
  | refine rd_div (by first | decide | (constructor <;> omega)) ?_
  | refine rd_mulR (by decide) ?_
  | refine rd_powC (by decide) ?_
  | refine rd_addI ?_
  | refine rd_eqI ?_
  | refine rd_neI ?_
  | refine rd_eqS ?_
  | refine rd_neS ?_
  | refine rd_eqB ?_
  | refine rd_neB ?_
  | refine rd_ipa ?_
  | refine rd_ips ?_
  | refine ru_neg ?_
  | refine rx_lenT ?_
  | refine rx_lenL ?_
  | refine rx_abs ?_
  | refine rc_intI ?_
  | refine rc_intB ?_
  | refine rc_tupT ?_
  | refine rc_tupL ?_
  | refine rc_tupR ?_
  | refine rs_tup ?_
  | refine rs_lst ?_
  | refine w_fldO rfl (by assumption) (by assumption) rfl ?_
  | refine w_fldV rfl (by assumption) (by assumption) rfl ?_
  | refine w_fld ?_
  | refine Exists.intro _ (And.intro rfl ?_)
  | refine Exists.intro _ (Exists.intro _ (Exists.intro _ (Exists.intro _ (And.intro rfl (And.intro (by assumption) (And.intro (by assumption) (And.intro (by rfl) ?_)))))))
  | refine w_callI (dds := []) (fun _ => .nil) (Exists.intro _ rfl) ?_
  | refine w_callI0 (dds := []) (fun _ => .nil) (Exists.intro _ rfl) ?_
  | refine w_call (dds := []) (fun _ => .nil) ?_
  | refine w_call0 (dds := []) (fun _ => .nil) ?_
  | refine w_make (dds := []) (fun _ => .nil) ?_
  | refine w_make0 (dds := []) (fun _ => .nil) ?_
  | refine w_meth (dds := []) (fun _ => .nil) ?_
  | refine w_meth0 (dds := []) (fun _ => .nil) ?_
  | refine And.intro (small (by simp only [List.length_cons, List.length_nil]; omega)) ?_
  | refine Exists.intro _ (Exists.intro _ (And.intro rfl (And.intro (by decide) ?_)))
  | refine Or.inl (Exists.intro _ (And.intro rfl ?_))
  | refine Or.inr (Exists.intro _ (And.intro rfl ?_))
  | refine And.intro rfl ?_)
local macro_rules | `(tactic| walk_at "dl") => `(tactic| repeat (first | walk_at "d1" | (dsimp only [onx, rets, lpe, rets1, List.cons_append, List.nil_append])))

local macro_rules | `(tactic| walk_at "n1") => `(tactic| with_reducible first
  | refine s_seq ?_
  | refine iteT ?_
  | refine iteF ?_
  | refine s_asg ?_
  | refine g_nm rfl rfl ?_
  | refine s_ret ?_
  | refine s_next ?_
  | refine s_retN ?_
  | refine s_drop ?_
  | refine s_brk ?_
  | refine s_cont ?_
  | refine s_aug1 rfl rfl ?_
  | refine s_fldO ?_
  | refine Exists.intro _ (Exists.intro _ (Exists.intro _ (And.intro rfl (And.intro (by assumption) (And.intro (by assumption) (And.intro (by decide) ?_))))))
  | refine w_var rfl ?_
  | refine w_int ?_
  | refine w_str ?_
  | refine w_bl ?_
  | refine w_non ?_
  | refine t_cmp ?_
  | refine rd_ixO rfl rfl ?_
  | refine w_op ?_
  | refine w_un ?_
  | refine w_chain ?_
  | refine t_test ?_
  | refine t_B ?_
  | refine t_not ?_
  | refine t_and ?_
  | refine t_or ?_
  | refine w_andV ?_
  | refine w_orV ?_
  | refine w_notV ?_
  | refine w_tup ?_
  | refine w_lst ?_
  | refine w_isiInt ?_
  | refine w_rev ?_
  | refine w_cb ?_
  | refine w_sl ?_
  | refine w_join ?_
  | refine t_yes ?_
  | refine w_m1 ?_
  | refine rj_find ?_
  | refine rj_count ?_
  | refine w_joined ?_
  | refine a_nil ?_
  | refine a_cons ?_
  | refine o_none ?_
  | refine o_some ?_
  | refine g_tup rfl ?_
  | refine g_setO rfl rfl ?_
  | refine gs_nil ?_
  | refine gs_cons ?_
  | refine j_nil ?_
  | refine j_cons ?_
  | refine rd_lt ?_
  | refine rd_le ?_
  | refine rd_gt ?_
  | refine rd_ge ?_
  | refine rd_sub ?_
  | refine rd_mod (by first | decide | assumption) ?_
  | refine rd_div (by first | decide | (constructor <;> omega)) ?_
  | refine rd_mulR (by decide) ?_
  | refine rd_powC (by decide) ?_
  | refine rd_addI ?_
  | refine rd_eqI ?_
  | refine rd_neI ?_
  | refine rd_eqS ?_
  | refine rd_neS ?_
  | refine rd_eqB ?_
  | refine rd_neB ?_
  | refine rd_ipa ?_
  | refine rd_ips ?_
  | refine ru_neg ?_
  | refine rx_lenT ?_
  | refine rx_lenL ?_
  | refine rx_abs ?_
  | refine rc_intI ?_
  | refine rc_intB ?_
  | refine rc_tupT ?_
  | refine rc_tupL ?_
  | refine rc_tupR ?_
  | refine rs_tup ?_
  | refine rs_lst ?_
  | refine w_fldO rfl (by assumption) (by assumption) rfl ?_
  | refine w_fldV rfl (by assumption) (by assumption) rfl ?_
  | refine w_fld ?_
  | refine Exists.intro _ (And.intro rfl ?_)
  | refine Exists.intro _ (Exists.intro _ (Exists.intro _ (Exists.intro _ (And.intro rfl (And.intro (by assumption) (And.intro (by assumption) (And.intro (by rfl) ?_)))))))
  | refine w_callI (dds := []) (fun _ => .nil) (Exists.intro _ rfl) ?_
  | refine w_callI0 (dds := []) (fun _ => .nil) (Exists.intro _ rfl) ?_
  | refine w_call (dds := []) (fun _ => .nil) ?_
  | refine w_call0 (dds := []) (fun _ => .nil) ?_
  | refine w_make (dds := []) (fun _ => .nil) ?_
  | refine w_make0 (dds := []) (fun _ => .nil) ?_
  | refine w_meth (dds := []) (fun _ => .nil) ?_
  | refine w_meth0 (dds := []) (fun _ => .nil) ?_
  | refine And.intro (small (by simp only [List.length_cons, List.length_nil]; omega)) ?_
  | refine Exists.intro _ (Exists.intro _ (And.intro rfl (And.intro (by decide) ?_)))
  | refine Or.inl (Exists.intro _ (And.intro rfl ?_))
  | refine Or.inr (Exists.intro _ (And.intro rfl ?_))
  | refine And.intro rfl ?_)
local macro_rules | `(tactic| walk_at "nl") => `(tactic| repeat (first | walk_at "n1" | (dsimp only [onx, rets, lpe, rets1, List.cons_append, List.nil_append])))

local macro_rules | `(tactic| walk_at "f1") => `(tactic| with_reducible first
  | refine s_seq ?_
  | refine iteT ?_
  | refine iteF ?_
  | refine s_asg ?_
  | refine g_nm rfl rfl ?_
  | refine s_ifF ?_
  | refine s_ret ?_
  | refine s_next ?_
  | refine s_retN ?_
  | refine s_drop ?_
  | refine s_brk ?_
  | refine s_cont ?_
  | refine s_aug1 rfl rfl ?_
  | refine s_fldO ?_
  | refine Exists.intro _ (Exists.intro _ (Exists.intro _ (And.intro rfl (And.intro (by assumption) (And.intro (by assumption) (And.intro (by decide) ?_))))))
  | refine w_var rfl ?_
  | refine w_int ?_
  | refine w_str ?_
  | refine w_bl ?_
  | refine w_non ?_
  | refine t_cmp ?_
  | refine rd_ixO rfl rfl ?_
  | refine w_op ?_
  | refine w_un ?_
  | refine w_chain ?_
  | refine t_test ?_
  | refine t_B ?_
  | refine t_not ?_
  | refine t_and ?_
  | refine t_orF ?_
  | refine w_andV ?_
  | refine w_orV ?_
  | refine w_notV ?_
  | refine w_tup ?_
  | refine w_lst ?_
  | refine w_isiInt ?_
  | refine w_rev ?_
  | refine w_cb ?_
  | refine w_sl ?_
  | refine w_join ?_
  | refine t_yes ?_
  | refine w_m1 ?_
  | refine rj_find ?_
  | refine rj_count ?_
  | refine w_joined ?_
  | refine a_nil ?_
  | refine a_cons ?_
  | refine o_none ?_
  | refine o_some ?_
  | refine g_tup rfl ?_
  | refine g_setO rfl rfl ?_
  | refine gs_nil ?_
  | refine gs_cons ?_
  | refine j_nil ?_
  | refine j_cons ?_
  | refine rd_lt ?_
  | refine rd_le ?_
  | refine rd_gt ?_
  | refine rd_ge ?_
  | refine rd_sub ?_
  | refine rd_mod (by first | decide | assumption) ?_
  | refine rd_div (by first | decide | (constructor <;> omega)) ?_
  | refine rd_mulR (by decide) ?_
  | refine rd_powC (by decide) ?_
  | refine rd_addI ?_
  | refine rd_eqI ?_
  | refine rd_neI ?_
  | refine rd_eqS ?_
  | refine rd_neS ?_
  | refine rd_eqB ?_
  | refine rd_neB ?_
  | refine rd_ipa ?_
  | refine rd_ips ?_
  | refine ru_neg ?_
  | refine rx_lenT ?_
  | refine rx_lenL ?_
  | refine rx_abs ?_
  | refine rc_intI ?_
  | refine rc_intB ?_
  | refine rc_tupT ?_
  | refine rc_tupL ?_
  | refine rc_tupR ?_
  | refine rs_tup ?_
  | refine rs_lst ?_
  | refine w_fldO rfl (by assumption) (by assumption) rfl ?_
  | refine w_fldV rfl (by assumption) (by assumption) rfl ?_
  | refine w_fld ?_
  | refine Exists.intro _ (And.intro rfl ?_)
  | refine Exists.intro _ (Exists.intro _ (Exists.intro _ (Exists.intro _ (And.intro rfl (And.intro (by assumption) (And.intro (by assumption) (And.intro (by rfl) ?_)))))))
  | refine w_callI (dds := []) (fun _ => .nil) (Exists.intro _ rfl) ?_
  | refine w_callI0 (dds := []) (fun _ => .nil) (Exists.intro _ rfl) ?_
  | refine w_call (dds := []) (fun _ => .nil) ?_
  | refine w_call0 (dds := []) (fun _ => .nil) ?_
  | refine w_make (dds := []) (fun _ => .nil) ?_
  | refine w_make0 (dds := []) (fun _ => .nil) ?_
  | refine w_meth (dds := []) (fun _ => .nil) ?_
  | refine w_meth0 (dds := []) (fun _ => .nil) ?_
  | refine And.intro (small (by simp only [List.length_cons, List.length_nil]; omega)) ?_
  | refine Exists.intro _ (Exists.intro _ (And.intro rfl (And.intro (by decide) ?_)))
  | refine Or.inl (Exists.intro _ (And.intro rfl ?_))
  | refine Or.inr (Exists.intro _ (And.intro rfl ?_))
  | refine And.intro rfl ?_)
local macro_rules | `(tactic| walk_at "fl") => `(tactic| repeat (first | walk_at "f1" | (dsimp only [onx, rets, lpe, rets1, List.cons_append, List.nil_append])))
theorem small1 {n : Nat} (h : n < 100000) : n < sizeLine := Nat.lt_of_lt_of_le h (by decide)
section
variable {P : Program} {w : World} {K : PySem.W.Frag} {Tb : TbT} {mg : Str → Option Value} {base : Heap}
theorem seg_1 {f c : Addr} {C : Addr} (T : Tx K mg) (cc : TC K C) (Fd_law_tape : Fd P w K mg base "_law_tape" P_law_tape [] 4 (spI K Tb (pm_law_tape C))) {A : Around} {outer : List Env} {s : Shared} {H : Hp} {E : XK} (hr : Room 6 (A.deeper (PyProof.Rows.envOfC "law" (defScope s_law) s.heap.objs.size f (.ref c)))) {tr : TS} (h : PSs (cxOf (L2.CX P w) P w K mg base N_law "law" (defScope s_law) f (.ref c) A outer s H E) (dayB.drop 4) tr) :
    ∃ t, PSs (cxOf (L2.CX P w) P w K mg base N_law "law" (defScope s_law) f (.ref c) A outer s H E) (dayB.drop 0) t ∧ ∀ Γ Ψ, (∃ d, IsDice d ∧ Γ = [.un, .ow d, .un, .un, .un, .un, .un, .un, .un, .un, .un, .un, .un, .un, .un, .un, .un, .un, .un, .un, .un, .un, .un]) → (∀ Γ', (∃ d t kvs, IsDice d ∧ Rel 0 t 0 kvs ∧ (∀ x ∈ t.word, x < 3) ∧ Γ' = [.un, .ow d, .im (t.d C), .ow (dKd (kd kvs)), .im (.int 0), .un, .un, .un, .un, .un, .un, .un, .un, .un, .un, .un, .un, .un, .un, .un, .un, .un, .un]) → Ws ⟨K, Tb, [], E, fun _ => False, True⟩ tr Γ' Ψ) → Ws ⟨K, Tb, [], E, fun _ => False, True⟩ t Γ Ψ := by
  have tE : Takes (cxOf (L2.CX P w) P w K mg base N_law "law" (defScope s_law) f (.ref c) A outer s H E) (fun cls d _ H => E cls d H) := takes_of rfl rfl rfl rfl
  have pE : Passes (L2.CX P w) (cxOf (L2.CX P w) P w K mg base N_law "law" (defScope s_law) f (.ref c) A outer s H E) E := passes_call tE fun _ _ _ _ h => h
  refine ⟨_, (pss_cons (ps_set (i := 2) sc_law.nd rfl (by first | exact Or.inl rfl | exact Or.inr rfl) (pe_fn 0 Fd_law_tape (by first | decide | simp) (hr.mono (by decide)) (by rfl) pE (pa_cons (pv 1) (pa_cons pe_int (pa_cons pe_int pa_nil)))))
      (pss_cons (ps_asgN (pe_tup (pa_cons (pe_disp (pps_cons pe_int (pe_fldK K rfl (pv 2) rfl) pps_nil) rfl rfl (by simp) (by decide)) (pa_cons pe_int pa_nil))) (pg_tupK (n := 2) K rfl rfl (pgs_cons (pg_name (i := 3) sc_law.nd rfl (by first | exact Or.inl rfl | exact Or.inr rfl)) (pgs_cons (pg_name (i := 4) sc_law.nd rfl (by first | exact Or.inl rfl | exact Or.inr rfl)) pgs_nil))))
      (pss_cons (ps_for (passes_of rfl) rfl (pi_range1 (by rfl) T.range (pa_cons (pe_callB (call_lenK K rfl) (by rfl) T.len (by decide +kernel) (pa_cons (pe_fldK K rfl (pv 2) rfl) pa_nil)) pa_nil)) (pg_name (i := 5) sc_law.nd rfl (by first | exact Or.inl rfl | exact Or.inr rfl)) (pss_one (ps_dput (u1 hr.units) (pv 3) (pe_op op_subX (pe_op op_subX pe_int pe_int) (pv 5)) (pe_ix (ix_seqK K rfl) (pe_fldK K rfl (pv 2) rfl) (pv 5) (fun _ _ => rfl)) rfl)))
      (pss_cons (ps_for (passes_of rfl) rfl (pi_range1 (by rfl) T.range (pa_cons (pe_callB (call_lenK K rfl) (by rfl) T.len (by decide +kernel) (pa_cons (pe_fldK K rfl (pv 2) rfl) pa_nil)) pa_nil)) (pg_name (i := 5) sc_law.nd rfl (by first | exact Or.inl rfl | exact Or.inr rfl)) (pss_one (ps_dput (u1 hr.units) (pv 3) (pe_op (op_addK K rfl) pe_int (pv 5)) (pe_ix (ix_seqK K rfl) (pe_fldK K rfl (pv 2) rfl) (pv 5) (fun _ _ => rfl)) rfl)))
      h)))), ?_⟩
  try simp only [cxOf_K]
  clear hr tE pE h

  rintro Γ Ψ ⟨d, id, rfl⟩ fin
  obtain ⟨ccl, cll, clh, clr⟩ := cc
  walk_at "nl"
  refine ⟨id, 3, 4, rfl, by omega, by omega, by omega, by omega, fun t d1 g l1 l2 w3 id1 => ?_⟩
  walk_at "nl"
  refine s_asgTN rfl rfl rfl rfl (fun _ => .int) (n_disp (pp_cons ?_))
  walk_at "nl"
  refine pp_nil ⟨by simp, rfl, ?_⟩
  have e0 : dmerge [] [(Sum.inl 0, Dt.int t.h)] = kd (iput [] 0 t.h) := dput_kd [] 0 t.h
  rw [e0]
  walk_at "nl"
  refine s_for (i_rng1 ?_)
  walk_at "nl"
  rw [dI_len]
  refine ⟨by omega, by omega, fun i Γ' => ∃ kvs s5, Prt t i 0 kvs ∧ Γ' = [.un, .ow d1, .im (t.d C), .ow (dKd (kd kvs)), .im (.int 0), s5, .un, .un, .un, .un, .un, .un, .un, .un, .un, .un, .un, .un, .un, .un, .un, .un, .un], ⟨_, .un, .zero t, rfl⟩, ?_, ?_⟩
  · rintro i d Γ' ed ⟨kvs, s5, p, rfl⟩
    have hi : i < t.l.length := by
      have := (List.getElem?_eq_some_iff.mp ed).1
      rw [rngD_len] at this
      simpa using this
    rw [rngD_get (by simpa using hi)] at ed
    cases ed
    rw [Int.zero_add]
    walk_at "nl"
    refine s_dput ?_
    walk_at "nl"
    refine rd_ixT (at_dI hi) ⟨⟨_, rfl⟩, ?_⟩
    walk_at "nl"
    refine ⟨kd kvs, .inl (0 - 1 - (i : Int)), rfl, rfl, small1 (by rw [kd_len]; have := p.len; omega), ?_⟩
    rw [dput_kd]
    exact ⟨_, _, p.left hi, rfl⟩
  · rintro Γ' ⟨kvs, s5, p, rfl⟩
    rw [rngD_len, Int.toNat_natCast] at p
    walk_at "nl"
    refine s_for (i_rng1 ?_)
    walk_at "nl"
    rw [dI_len]
    refine ⟨by omega, by omega, fun j Γ' => ∃ kvs s5, Prt t t.l.length j kvs ∧ Γ' = [.un, .ow d1, .im (t.d C), .ow (dKd (kd kvs)), .im (.int 0), s5, .un, .un, .un, .un, .un, .un, .un, .un, .un, .un, .un, .un, .un, .un, .un, .un, .un], ⟨_, _, p, rfl⟩, ?_, ?_⟩
    · rintro j d Γ' ed ⟨kvs, s5, p, rfl⟩
      have hj : j < t.r.length := by
        have := (List.getElem?_eq_some_iff.mp ed).1
        rw [rngD_len] at this
        simpa using this
      rw [rngD_get (by simpa using hj)] at ed
      cases ed
      rw [Int.zero_add]
      walk_at "nl"
      refine s_dput ?_
      walk_at "nl"
      refine rd_ixT (at_dI hj) ⟨⟨_, rfl⟩, ?_⟩
      walk_at "nl"
      refine ⟨kd kvs, .inl (1 + (j : Int)), rfl, rfl, small1 (by rw [kd_len]; have := p.len; omega), ?_⟩
      rw [dput_kd]
      exact ⟨_, _, p.right hj, rfl⟩
    · rintro Γ' ⟨kvs, s5, p, rfl⟩
      rw [rngD_len, Int.toNat_natCast] at p
      refine s_wipe [5] rfl (fin _ ⟨d1, t, kvs, id1, p.rel g (by omega) (by omega), w3, rfl⟩)

end
end TW
namespace TW
open PySem L2 Evl DL
local macro_rules | `(tactic| walk_at "d1") => `(tactic| with_reducible first
  | refine s_seq ?_
  | refine iteT ?_
  | refine iteF ?_
  | refine s_asg ?_
  | refine g_nm rfl rfl ?_
  | refine s_if ?_
  | refine s_ret ?_
  | refine s_next ?_
  | refine s_retN ?_
  | refine s_drop ?_
  | refine s_brk ?_
  | refine s_cont ?_
  | refine s_aug1 rfl rfl ?_
  | refine s_fldO ?_
  | refine Exists.intro _ (Exists.intro _ (Exists.intro _ (And.intro rfl (And.intro (by assumption) (And.intro (by assumption) (And.intro (by decide) ?_))))))
  | refine w_var rfl ?_
  | refine w_int ?_
  | refine w_str ?_
  | refine w_bl ?_
  | refine w_non ?_
  | refine t_cmp ?_
  | refine rd_ixO rfl rfl ?_
  | refine w_op ?_
  | refine w_un ?_
  | refine w_chain ?_
  | refine t_test ?_
  | refine t_B ?_
  | refine t_not ?_
  | refine t_and ?_
  | refine t_or ?_
  | refine w_andV ?_
  | refine w_orV ?_
  | refine w_notV ?_
  | refine w_if ?_
  | refine w_tup ?_
  | refine w_lst ?_
  | refine w_isiInt ?_
  | refine w_rev ?_
  | refine w_cb ?_
  | refine w_sl ?_
  | refine w_join ?_
  | refine t_yes ?_
  | refine w_m1 ?_
  | refine rj_find ?_
  | refine rj_count ?_
  | refine w_joined ?_
  | refine a_nil ?_
  | refine a_cons ?_
  | refine o_none ?_
  | refine o_some ?_
  | refine g_tup rfl ?_
  | refine g_setO rfl rfl ?_
  | refine gs_nil ?_
  | refine gs_cons ?_
  | refine j_nil ?_
  | refine j_cons ?_
  | refine rd_lt ?_
  | refine rd_le ?_
  | refine rd_gt ?_
  | refine rd_ge ?_
  | refine rd_sub ?_
  | refine rd_mod (by first | decide | assumption) ?_
  | refine rd_div (by first | decide | (constructor <;> omega)) ?_
  | refine rd_mulR (by decide) ?_
  | refine rd_powC (by decide) ?_
  | refine rd_addI ?_
  | refine rd_eqI ?_
  | refine rd_neI ?_
  | refine rd_eqS ?_
  | refine rd_neS ?_
  | refine rd_eqB ?_
  | refine rd_neB ?_
  | refine rd_ipa ?_
  | refine rd_ips ?_
  | refine ru_neg ?_
  | refine rx_lenT ?_
  | refine rx_lenL ?_
  | refine rx_abs ?_
  | refine rc_intI ?_
  | refine rc_intB ?_
  | refine rc_tupT ?_
  | refine rc_tupL ?_
  | refine rc_tupR ?_
  | refine rs_tup ?_
  | refine rs_lst ?_
  | refine w_fldO rfl (by assumption) (by assumption) rfl ?_
  | refine w_fldV rfl (by assumption) (by assumption) rfl ?_
  | refine w_fld ?_
  | refine Exists.intro _ (And.intro rfl ?_)
  | refine Exists.intro _ (Exists.intro _ (Exists.intro _ (Exists.intro _ (And.intro rfl (And.intro (by assumption) (And.intro (by assumption) (And.intro (by rfl) ?_)))))))
  | refine w_callI (dds := []) (fun _ => .nil) (Exists.intro _ rfl) ?_
  | refine w_callI0 (dds := []) (fun _ => .nil) (Exists.intro _ rfl) ?_
  | refine w_call (dds := []) (fun _ => .nil) ?_
  | refine w_call0 (dds := []) (fun _ => .nil) ?_
  | refine w_make (dds := []) (fun _ => .nil) ?_
  | refine w_make0 (dds := []) (fun _ => .nil) ?_
  | refine w_meth (dds := []) (fun _ => .nil) ?_
  | refine w_meth0 (dds := []) (fun _ => .nil) ?_
  | refine And.intro (small (by simp only [List.length_cons, List.length_nil]; omega)) ?_
  | refine Exists.intro _ (Exists.intro _ (And.intro rfl (And.intro (by decide) ?_)))
  | refine Or.inl (Exists.intro _ (And.intro rfl ?_))
  | refine Or.inr (Exists.intro _ (And.intro rfl ?_))
  | refine And.intro rfl ?_)
local macro_rules | `(tactic| walk_at "dl") => `(tactic| repeat (first | walk_at "d1" | (dsimp only [onx, rets, lpe, rets1, List.cons_append, List.nil_append])))

local macro_rules | `(tactic| walk_at "n1") => `(tactic| with_reducible first
  | refine s_seq ?_
  | refine iteT ?_
  | refine iteF ?_
  | refine s_asg ?_
  | refine g_nm rfl rfl ?_
  | refine s_ret ?_
  | refine s_next ?_
  | refine s_retN ?_
  | refine s_drop ?_
  | refine s_brk ?_
  | refine s_cont ?_
  | refine s_aug1 rfl rfl ?_
  | refine s_fldO ?_
  | refine Exists.intro _ (Exists.intro _ (Exists.intro _ (And.intro rfl (And.intro (by assumption) (And.intro (by assumption) (And.intro (by decide) ?_))))))
  | refine w_var rfl ?_
  | refine w_int ?_
  | refine w_str ?_
  | refine w_bl ?_
  | refine w_non ?_
  | refine t_cmp ?_
  | refine rd_ixO rfl rfl ?_
  | refine w_op ?_
  | refine w_un ?_
  | refine w_chain ?_
  | refine t_test ?_
  | refine t_B ?_
  | refine t_not ?_
  | refine t_and ?_
  | refine t_or ?_
  | refine w_andV ?_
  | refine w_orV ?_
  | refine w_notV ?_
  | refine w_tup ?_
  | refine w_lst ?_
  | refine w_isiInt ?_
  | refine w_rev ?_
  | refine w_cb ?_
  | refine w_sl ?_
  | refine w_join ?_
  | refine t_yes ?_
  | refine w_m1 ?_
  | refine rj_find ?_
  | refine rj_count ?_
  | refine w_joined ?_
  | refine a_nil ?_
  | refine a_cons ?_
  | refine o_none ?_
  | refine o_some ?_
  | refine g_tup rfl ?_
  | refine g_setO rfl rfl ?_
  | refine gs_nil ?_
  | refine gs_cons ?_
  | refine j_nil ?_
  | refine j_cons ?_
  | refine rd_lt ?_
  | refine rd_le ?_
  | refine rd_gt ?_
  | refine rd_ge ?_
  | refine rd_sub ?_
  | refine rd_mod (by first | decide | assumption) ?_
  | refine rd_div (by first | decide | (constructor <;> omega)) ?_
  | refine rd_mulR (by decide) ?_
  | refine rd_powC (by decide) ?_
  | refine rd_addI ?_
  | refine rd_eqI ?_
  | refine rd_neI ?_
  | refine rd_eqS ?_
  | refine rd_neS ?_
  | refine rd_eqB ?_
  | refine rd_neB ?_
  | refine rd_ipa ?_
  | refine rd_ips ?_
  | refine ru_neg ?_
  | refine rx_lenT ?_
  | refine rx_lenL ?_
  | refine rx_abs ?_
  | refine rc_intI ?_
  | refine rc_intB ?_
  | refine rc_tupT ?_
  | refine rc_tupL ?_
  | refine rc_tupR ?_
  | refine rs_tup ?_
  | refine rs_lst ?_
  | refine w_fldO rfl (by assumption) (by assumption) rfl ?_
  | refine w_fldV rfl (by assumption) (by assumption) rfl ?_
  | refine w_fld ?_
  | refine Exists.intro _ (And.intro rfl ?_)
  | refine Exists.intro _ (Exists.intro _ (Exists.intro _ (Exists.intro _ (And.intro rfl (And.intro (by assumption) (And.intro (by assumption) (And.intro (by rfl) ?_)))))))
  | refine w_callI (dds := []) (fun _ => .nil) (Exists.intro _ rfl) ?_
  | refine w_callI0 (dds := []) (fun _ => .nil) (Exists.intro _ rfl) ?_
  | refine w_call (dds := []) (fun _ => .nil) ?_
  | refine w_call0 (dds := []) (fun _ => .nil) ?_
  | refine w_make (dds := []) (fun _ => .nil) ?_
  | refine w_make0 (dds := []) (fun _ => .nil) ?_
  | refine w_meth (dds := []) (fun _ => .nil) ?_
  | refine w_meth0 (dds := []) (fun _ => .nil) ?_
  | refine And.intro (small (by simp only [List.length_cons, List.length_nil]; omega)) ?_
  | refine Exists.intro _ (Exists.intro _ (And.intro rfl (And.intro (by decide) ?_)))
  | refine Or.inl (Exists.intro _ (And.intro rfl ?_))
  | refine Or.inr (Exists.intro _ (And.intro rfl ?_))
  | refine And.intro rfl ?_)
local macro_rules | `(tactic| walk_at "nl") => `(tactic| repeat (first | walk_at "n1" | (dsimp only [onx, rets, lpe, rets1, List.cons_append, List.nil_append])))

local macro_rules | `(tactic| walk_at "f1") => `(tactic| with_reducible first
  | refine s_seq ?_
  | refine iteT ?_
  | refine iteF ?_
  | refine s_asg ?_
  | refine g_nm rfl rfl ?_
  | refine s_ifF ?_
  | refine s_ret ?_
  | refine s_next ?_
  | refine s_retN ?_
  | refine s_drop ?_
  | refine s_brk ?_
  | refine s_cont ?_
  | refine s_aug1 rfl rfl ?_
  | refine s_fldO ?_
  | refine Exists.intro _ (Exists.intro _ (Exists.intro _ (And.intro rfl (And.intro (by assumption) (And.intro (by assumption) (And.intro (by decide) ?_))))))
  | refine w_var rfl ?_
  | refine w_int ?_
  | refine w_str ?_
  | refine w_bl ?_
  | refine w_non ?_
  | refine t_cmp ?_
  | refine rd_ixO rfl rfl ?_
  | refine w_op ?_
  | refine w_un ?_
  | refine w_chain ?_
  | refine t_test ?_
  | refine t_B ?_
  | refine t_not ?_
  | refine t_and ?_
  | refine t_orF ?_
  | refine w_andV ?_
  | refine w_orV ?_
  | refine w_notV ?_
  | refine w_tup ?_
  | refine w_lst ?_
  | refine w_isiInt ?_
  | refine w_rev ?_
  | refine w_cb ?_
  | refine w_sl ?_
  | refine w_join ?_
  | refine t_yes ?_
  | refine w_m1 ?_
  | refine rj_find ?_
  | refine rj_count ?_
  | refine w_joined ?_
  | refine a_nil ?_
  | refine a_cons ?_
  | refine o_none ?_
  | refine o_some ?_
  | refine g_tup rfl ?_
  | refine g_setO rfl rfl ?_
  | refine gs_nil ?_
  | refine gs_cons ?_
  | refine j_nil ?_
  | refine j_cons ?_
  | refine rd_lt ?_
  | refine rd_le ?_
  | refine rd_gt ?_
  | refine rd_ge ?_
  | refine rd_sub ?_
  | refine rd_mod (by first | decide | assumption) ?_
  | refine rd_div (by first | decide | (constructor <;> omega)) ?_
  | refine rd_mulR (by decide) ?_
  | refine rd_powC (by decide) ?_
  | refine rd_addI ?_
  | refine rd_eqI ?_
  | refine rd_neI ?_
  | refine rd_eqS ?_
  | refine rd_neS ?_
  | refine rd_eqB ?_
  | refine rd_neB ?_
  | refine rd_ipa ?_
  | refine rd_ips ?_
  | refine ru_neg ?_
  | refine rx_lenT ?_
  | refine rx_lenL ?_
  | refine rx_abs ?_
  | refine rc_intI ?_
  | refine rc_intB ?_
  | refine rc_tupT ?_
  | refine rc_tupL ?_
  | refine rc_tupR ?_
  | refine rs_tup ?_
  | refine rs_lst ?_
  | refine w_fldO rfl (by assumption) (by assumption) rfl ?_
  | refine w_fldV rfl (by assumption) (by assumption) rfl ?_
  | refine w_fld ?_
  | refine Exists.intro _ (And.intro rfl ?_)
  | refine Exists.intro _ (Exists.intro _ (Exists.intro _ (Exists.intro _ (And.intro rfl (And.intro (by assumption) (And.intro (by assumption) (And.intro (by rfl) ?_)))))))
  | refine w_callI (dds := []) (fun _ => .nil) (Exists.intro _ rfl) ?_
  | refine w_callI0 (dds := []) (fun _ => .nil) (Exists.intro _ rfl) ?_
  | refine w_call (dds := []) (fun _ => .nil) ?_
  | refine w_call0 (dds := []) (fun _ => .nil) ?_
  | refine w_make (dds := []) (fun _ => .nil) ?_
  | refine w_make0 (dds := []) (fun _ => .nil) ?_
  | refine w_meth (dds := []) (fun _ => .nil) ?_
  | refine w_meth0 (dds := []) (fun _ => .nil) ?_
  | refine And.intro (small (by simp only [List.length_cons, List.length_nil]; omega)) ?_
  | refine Exists.intro _ (Exists.intro _ (And.intro rfl (And.intro (by decide) ?_)))
  | refine Or.inl (Exists.intro _ (And.intro rfl ?_))
  | refine Or.inr (Exists.intro _ (And.intro rfl ?_))
  | refine And.intro rfl ?_)
local macro_rules | `(tactic| walk_at "fl") => `(tactic| repeat (first | walk_at "f1" | (dsimp only [onx, rets, lpe, rets1, List.cons_append, List.nil_append])))

theorem small2 {n : Nat} (h : n < 100000) : n < sizeLine := Nat.lt_of_lt_of_le h (by decide)
theorem wr_mem {t : Tp} {s x : Int} (h : x ∈ (t.wr s).word) : x ∈ t.word ∨ x = s := by
  unfold Tp.word Tp.wr at *
  simp only [List.mem_append, List.mem_reverse, List.mem_singleton] at *
  rcases h with (h | h) | h
  · exact .inl (.inl (.inl h))
  · exact .inr h
  · exact .inl (.inr h)
theorem drop_mem {xs : List Int} {n : Nat} {x : Int} (h : x ∈ xs.drop n) : x ∈ xs := List.mem_of_mem_drop h
theorem head_mem {xs : List Int} {x : Int} (h : x = xs.headD 0) : x ∈ xs ∨ x = 0 := by
  cases xs with
  | nil => exact .inr h
  | cons y r => exact .inl (by rw [h]; simp)
theorem mv_mem {t : Tp} {w x : Int} (h : x ∈ (t.mv w).word) : x ∈ t.word ∨ x = 0 := by
  unfold Tp.mv at h
  split at h
  · exact .inl h
  · split at h
    · unfold Tp.word Tp.mk' at h
      simp only [List.mem_append, List.mem_reverse, List.mem_singleton] at h
      unfold Tp.word
      simp only [List.mem_append, List.mem_reverse, List.mem_singleton]
      rcases h with (h | h) | h
      · rcases List.mem_cons.mp (trim_mem h) with h | h
        · exact .inl (.inl (.inr h))
        · exact .inl (.inl (.inl h))
      · rcases head_mem h with h | h
        · exact .inl (.inr h)
        · exact .inr h
      · exact .inl (.inr (drop_mem (trim_mem h)))
    · unfold Tp.word Tp.mk' at h
      simp only [List.mem_append, List.mem_reverse, List.mem_singleton] at h
      unfold Tp.word
      simp only [List.mem_append, List.mem_reverse, List.mem_singleton]
      rcases h with (h | h) | h
      · exact .inl (.inl (.inl (drop_mem (trim_mem h))))
      · rcases head_mem h with h | h
        · exact .inl (.inl (.inl h))
        · exact .inr h
      · rcases List.mem_cons.mp (trim_mem h) with h | h
        · exact .inl (.inl (.inr h))
        · exact .inl (.inr h)
theorem Rel.to8 {i : Nat} {t : Tp} {p : Int} {kvs : List (Int × Int)} (r : Rel (i + 1) t p kvs) (h : i < 8) : Rel 8 t p kvs := by
  have h1 := r.ll
  have h2 := r.lr
  have h3 := r.pb
  have h4 := r.len
  refine ⟨r.g, by omega, by omega, by omega, r.sg, r.one, r.nd, fun k hk => ?_, by omega⟩
  have := r.kb k hk
  omega
section
variable {P : Program} {w : World} {K : PySem.W.Frag} {Tb : TbT} {mg : Str → Option Value} {base : Heap}
theorem seg_2 {f c : Addr} {C X : Addr} (T : Tx K mg) (cc : TC K C) (Fd_law_roll : Fd P w K mg base "_law_roll" P_law_roll [] 1 (spI K Tb pm_roll)) (Fd_law_same : Fd P w K mg base "_law_same" P_law_same [] 3 (spD K Tb (pm_same C))) (Md_Tape_write : Md P w K mg base C "write" P_Tape_write [] 4 (spD K Tb (pm_write C))) (Md_Tape_move : Md P w K mg base C "move" P_Tape_move [] 4 (spD K Tb (pm_move C X))) {A : Around} {outer : List Env} {s : Shared} {H : Hp} {E : XK} (hr : Room 6 (A.deeper (PyProof.Rows.envOfC "law" (defScope s_law) s.heap.objs.size f (.ref c)))) {tr : TS} (h : PSs (cxOf (L2.CX P w) P w K mg base N_law "law" (defScope s_law) f (.ref c) A outer s H E) (dayB.drop 5) tr) :
    ∃ t, PSs (cxOf (L2.CX P w) P w K mg base N_law "law" (defScope s_law) f (.ref c) A outer s H E) (dayB.drop 4) t ∧ ∀ Γ Ψ, (∃ d t kvs, IsDice d ∧ Rel 0 t 0 kvs ∧ (∀ x ∈ t.word, x < 3) ∧ Γ = [.un, .ow d, .im (t.d C), .ow (dKd (kd kvs)), .im (.int 0), .un, .un, .un, .un, .un, .un, .un, .un, .un, .un, .un, .un, .un, .un, .un, .un, .un, .un]) → (∀ Γ', (∃ d t p kvs, IsDice d ∧ Rel 8 t p kvs ∧ (∀ x ∈ t.word, x < 3) ∧ Γ' = [.un, .ow d, .im (t.d C), .im (dKd (kd kvs)), .im (.int p), .un, .un, .un, .un, .un, .un, .un, .un, .un, .un, .un, .un, .un, .un, .un, .un, .un, .un]) → Ws ⟨K, Tb, [], E, fun _ => False, True⟩ tr Γ' Ψ) → Ws ⟨K, Tb, [], E, fun _ => False, True⟩ t Γ Ψ := by
  have tE : Takes (cxOf (L2.CX P w) P w K mg base N_law "law" (defScope s_law) f (.ref c) A outer s H E) (fun cls d _ H => E cls d H) := takes_of rfl rfl rfl rfl
  have pE : Passes (L2.CX P w) (cxOf (L2.CX P w) P w K mg base N_law "law" (defScope s_law) f (.ref c) A outer s H E) E := passes_call tE fun _ _ _ _ h => h
  refine ⟨_, (pss_cons (ps_for (passes_of rfl) rfl (pi_range1 (by rfl) T.range (pa_cons pe_int pa_nil)) (pg_name (i := 6) sc_law.nd rfl (by first | exact Or.inl rfl | exact Or.inr rfl)) (pss_cons (ps_par (i := 7) (j := 8) rfl sc_law.nd rfl rfl (by decide) rfl rfl (pa_cons (pe_fn 0 Fd_law_roll (by first | decide | simp) (hr.mono (by decide)) (by rfl) pE (pa_cons (pv 1) (pa_cons pe_int pa_nil))) (pa_cons (pe_op op_subX (pe_fn 0 Fd_law_roll (by first | decide | simp) (hr.mono (by decide)) (by rfl) pE (pa_cons (pv 1) (pa_cons pe_int pa_nil))) pe_int) pa_nil)) (by rfl))
      (pss_cons (ps_asg (pe_tup (pa_cons (pe_md 0 Md_Tape_move (by first | decide | simp) (pe_md 0 Md_Tape_write (by first | decide | simp) (pv 2) (hr.mono (by decide)) pE (pa_cons (pv 7) pa_nil)) (hr.mono (by decide)) pE (pa_cons (pv 8) pa_nil)) (pa_cons (pv 7) pa_nil))) (pg_tupK (n := 2) K rfl rfl (pgs_cons (pg_name (i := 2) sc_law.nd rfl (by first | exact Or.inl rfl | exact Or.inr rfl)) (pgs_cons (pg_sub (pv 3) (pv 4) (set_dict (u1 hr.units))) pgs_nil))))
      (pss_cons (ps_set (i := 4) sc_law.nd rfl (by first | exact Or.inl rfl | exact Or.inr rfl) (pe_op (op_addK K rfl) (pv 4) (pv 8)))
      (pss_one (ps_if (PW.pt (pw_or (pt_not (pt_val (pe_fn 0 Fd_law_same (by first | decide | simp) (hr.mono (by decide)) (by rfl) pE (pa_cons (pv 2) (pa_cons (pv 4) (pa_cons (pv 3) pa_nil)))))) (pw_or1 (pt_cmpR (op_neK K rfl hr.units) (pe_fldK K rfl (pv 2) rfl) (pe_dget2 (u1 hr.units) (pv 3) (pv 4) pe_int ⟨rfl, rfl, rfl, rfl⟩) (nomark _))))) (pss_one (ps_ret pe_bl)) pss_nil))))))
      h), ?_⟩
  try simp only [cxOf_K]
  clear hr tE pE h

  rintro Γ Ψ ⟨d, t, kvs, id, rel, w3, rfl⟩ fin
  obtain ⟨ccl, cll, clh, clr⟩ := cc
  walk_at "nl"
  refine s_for (i_rng1 ?_)
  walk_at "nl"
  refine ⟨by omega, by omega, fun i Γ' => ∃ d t p kvs s6 s7 s8, IsDice d ∧ Rel i t p kvs ∧ (∀ x ∈ t.word, x < 3) ∧ Γ' = [.un, .ow d, .im (t.d C), .ow (dKd (kd kvs)), .im (.int p), .un, s6, s7, s8, .un, .un, .un, .un, .un, .un, .un, .un, .un, .un, .un, .un, .un, .un], ⟨d, t, 0, kvs, .un, .un, .un, id, rel, w3, rfl⟩, ?_, ?_⟩
  · rintro i x Γ' ed ⟨d, t, p, kvs, s6, s7, s8, id, rel, w3, rfl⟩
    have hi : i < 8 := by
      have := (List.getElem?_eq_some_iff.mp ed).1
      rw [rngD_len] at this
      exact this
    rw [show Int.toNat 8 = 8 from rfl, rngD_get hi] at ed
    cases ed
    walk_at "nl"
    refine s_par rfl rfl rfl rfl ?_
    walk_at "nl"
    refine use_roll id (by omega) (by omega) fun r d1 r0 r3 id1 => ?_
    walk_at "nl"
    refine use_roll id1 (by omega) (by omega) fun v d2 v0 v3 id2 => ?_
    walk_at "nl"
    have r1 := (rel.step (s := r) (w := v - 1) r0 (by omega) (by omega))
    have a1 := rel.ll
    have a2 := rel.lr
    refine ⟨_, _, rfl, rfl, ?_⟩
    walk_at "nl"
    refine ⟨t, r, rfl, ⟨by omega, by omega⟩, rel.g, r0, ?_⟩
    walk_at "nl"
    refine ⟨t.wr r, v - 1, rfl, by show t.l.length ≤ 4999; omega, by show t.r.length ≤ 4999; omega, rel.g.wr r0, fun _ _ => ?_, fun h => by omega⟩
    walk_at "nl"
    refine g_dput ⟨⟨_, rfl⟩, ?_⟩
    walk_at "nl"
    refine ⟨kd kvs, .inl p, rfl, rfl, small2 (by rw [kd_len]; have := rel.len; omega), ?_⟩
    rw [dput_kd]
    walk_at "nl"
    have r8 := r1.to8 hi
    refine s_ifP False (t_or (t_not (t_B (w_pure ?_)))) (fun h => h.elim) fun _ => ?_
    · walk_at "nl"
      refine ⟨_, _, _, rfl, r8, .bl, _, rfl, ?_⟩
      rw [if_neg (by simp)]
      refine t_test (w_op ?_)
      walk_at "nl"
      refine w_pure ?_
      walk_at "nl"
      refine w_dget2 ?_
      walk_at "nl"
      refine ⟨_, _, rfl, ?_⟩
      walk_at "nl"
      rw [dget_kd, ig_getD]
      have eh := r8.sg (p + (v - 1))
      rw [Int.sub_self, at_0] at eh
      exact ⟨.int, rd_neI ⟨_, rfl, rfl, by rw [eh]; simp⟩⟩
    · walk_at "nl"
      exact ⟨d2, _, _, _, _, _, _, id2, r1, fun x hx => by
        rcases mv_mem hx with h | h
        · rcases wr_mem h with h | h
          · exact w3 x h
          · rw [h]; exact r3
        · omega, rfl⟩
  · rintro Γ' ⟨d, t, p, kvs, s6, s7, s8, id, rel, w3, rfl⟩
    refine s_freeze (j := 3) rfl rfl (s_wipe [6, 7, 8] rfl (fin _ ⟨d, t, p, kvs, id, rel, w3, rfl⟩))

end
end TW
namespace TW
open PySem L2 Evl DL
local macro_rules | `(tactic| walk_at "d1") => `(tactic| with_reducible first
  | refine s_seq ?_
  | refine iteT ?_
  | refine iteF ?_
  | refine s_asg ?_
  | refine g_nm rfl rfl ?_
  | refine s_if ?_
  | refine s_ret ?_
  | refine s_next ?_
  | refine s_retN ?_
  | refine s_drop ?_
  | refine s_brk ?_
  | refine s_cont ?_
  | refine s_aug1 rfl rfl ?_
  | refine s_fldO ?_
  | refine Exists.intro _ (Exists.intro _ (Exists.intro _ (And.intro rfl (And.intro (by assumption) (And.intro (by assumption) (And.intro (by decide) ?_))))))
  | refine w_var rfl ?_
  | refine w_int ?_
  | refine w_str ?_
  | refine w_bl ?_
  | refine w_non ?_
  | refine t_cmp ?_
  | refine rd_ixO rfl rfl ?_
  | refine w_op ?_
  | refine w_un ?_
  | refine w_chain ?_
  | refine t_test ?_
  | refine t_B ?_
  | refine t_not ?_
  | refine t_and ?_
  | refine t_or ?_
  | refine w_andV ?_
  | refine w_orV ?_
  | refine w_notV ?_
  | refine w_if ?_
  | refine w_tup ?_
  | refine w_lst ?_
  | refine w_isiInt ?_
  | refine w_rev ?_
  | refine w_cb ?_
  | refine w_sl ?_
  | refine w_join ?_
  | refine t_yes ?_
  | refine w_m1 ?_
  | refine rj_find ?_
  | refine rj_count ?_
  | refine w_joined ?_
  | refine a_nil ?_
  | refine a_cons ?_
  | refine o_none ?_
  | refine o_some ?_
  | refine g_tup rfl ?_
  | refine g_setO rfl rfl ?_
  | refine gs_nil ?_
  | refine gs_cons ?_
  | refine j_nil ?_
  | refine j_cons ?_
  | refine rd_lt ?_
  | refine rd_le ?_
  | refine rd_gt ?_
  | refine rd_ge ?_
  | refine rd_sub ?_
  | refine rd_mod (by first | decide | assumption) ?_
  | refine rd_div (by first | decide | (constructor <;> omega)) ?_
  | refine rd_mulR (by decide) ?_
  | refine rd_powC (by decide) ?_
  | refine rd_addI ?_
  | refine rd_eqI ?_
  | refine rd_neI ?_
  | refine rd_eqS ?_
  | refine rd_neS ?_
  | refine rd_eqB ?_
  | refine rd_neB ?_
  | refine rd_ipa ?_
  | refine rd_ips ?_
  | refine ru_neg ?_
  | refine rx_lenT ?_
  | refine rx_lenL ?_
  | refine rx_abs ?_
  | refine rc_intI ?_
  | refine rc_intB ?_
  | refine rc_tupT ?_
  | refine rc_tupL ?_
  | refine rc_tupR ?_
  | refine rs_tup ?_
  | refine rs_lst ?_
  | refine w_fldO rfl (by assumption) (by assumption) rfl ?_
  | refine w_fldV rfl (by assumption) (by assumption) rfl ?_
  | refine w_fld ?_
  | refine Exists.intro _ (And.intro rfl ?_)
  | refine Exists.intro _ (Exists.intro _ (Exists.intro _ (Exists.intro _ (And.intro rfl (And.intro (by assumption) (And.intro (by assumption) (And.intro (by rfl) ?_)))))))
  | refine w_callI (dds := []) (fun _ => .nil) (Exists.intro _ rfl) ?_
  | refine w_callI0 (dds := []) (fun _ => .nil) (Exists.intro _ rfl) ?_
  | refine w_call (dds := []) (fun _ => .nil) ?_
  | refine w_call0 (dds := []) (fun _ => .nil) ?_
  | refine w_make (dds := []) (fun _ => .nil) ?_
  | refine w_make0 (dds := []) (fun _ => .nil) ?_
  | refine w_meth (dds := []) (fun _ => .nil) ?_
  | refine w_meth0 (dds := []) (fun _ => .nil) ?_
  | refine And.intro (small (by simp only [List.length_cons, List.length_nil]; omega)) ?_
  | refine Exists.intro _ (Exists.intro _ (And.intro rfl (And.intro (by decide) ?_)))
  | refine Or.inl (Exists.intro _ (And.intro rfl ?_))
  | refine Or.inr (Exists.intro _ (And.intro rfl ?_))
  | refine And.intro rfl ?_)
local macro_rules | `(tactic| walk_at "dl") => `(tactic| repeat (first | walk_at "d1" | (dsimp only [onx, rets, lpe, rets1, List.cons_append, List.nil_append])))

local macro_rules | `(tactic| walk_at "n1") => `(tactic| with_reducible first
  | refine s_seq ?_
  | refine iteT ?_
  | refine iteF ?_
  | refine s_asg ?_
  | refine g_nm rfl rfl ?_
  | refine s_ret ?_
  | refine s_next ?_
  | refine s_retN ?_
  | refine s_drop ?_
  | refine s_brk ?_
  | refine s_cont ?_
  | refine s_aug1 rfl rfl ?_
  | refine s_fldO ?_
  | refine Exists.intro _ (Exists.intro _ (Exists.intro _ (And.intro rfl (And.intro (by assumption) (And.intro (by assumption) (And.intro (by decide) ?_))))))
  | refine w_var rfl ?_
  | refine w_int ?_
  | refine w_str ?_
  | refine w_bl ?_
  | refine w_non ?_
  | refine t_cmp ?_
  | refine rd_ixO rfl rfl ?_
  | refine w_op ?_
  | refine w_un ?_
  | refine w_chain ?_
  | refine t_test ?_
  | refine t_B ?_
  | refine t_not ?_
  | refine t_and ?_
  | refine t_or ?_
  | refine w_andV ?_
  | refine w_orV ?_
  | refine w_notV ?_
  | refine w_tup ?_
  | refine w_lst ?_
  | refine w_isiInt ?_
  | refine w_rev ?_
  | refine w_cb ?_
  | refine w_sl ?_
  | refine w_join ?_
  | refine t_yes ?_
  | refine w_m1 ?_
  | refine rj_find ?_
  | refine rj_count ?_
  | refine w_joined ?_
  | refine a_nil ?_
  | refine a_cons ?_
  | refine o_none ?_
  | refine o_some ?_
  | refine g_tup rfl ?_
  | refine g_setO rfl rfl ?_
  | refine gs_nil ?_
  | refine gs_cons ?_
  | refine j_nil ?_
  | refine j_cons ?_
  | refine rd_lt ?_
  | refine rd_le ?_
  | refine rd_gt ?_
  | refine rd_ge ?_
  | refine rd_sub ?_
  | refine rd_mod (by first | decide | assumption) ?_
  | refine rd_div (by first | decide | (constructor <;> omega)) ?_
  | refine rd_mulR (by decide) ?_
  | refine rd_powC (by decide) ?_
  | refine rd_addI ?_
  | refine rd_eqI ?_
  | refine rd_neI ?_
  | refine rd_eqS ?_
  | refine rd_neS ?_
  | refine rd_eqB ?_
  | refine rd_neB ?_
  | refine rd_ipa ?_
  | refine rd_ips ?_
  | refine ru_neg ?_
  | refine rx_lenT ?_
  | refine rx_lenL ?_
  | refine rx_abs ?_
  | refine rc_intI ?_
  | refine rc_intB ?_
  | refine rc_tupT ?_
  | refine rc_tupL ?_
  | refine rc_tupR ?_
  | refine rs_tup ?_
  | refine rs_lst ?_
  | refine w_fldO rfl (by assumption) (by assumption) rfl ?_
  | refine w_fldV rfl (by assumption) (by assumption) rfl ?_
  | refine w_fld ?_
  | refine Exists.intro _ (And.intro rfl ?_)
  | refine Exists.intro _ (Exists.intro _ (Exists.intro _ (Exists.intro _ (And.intro rfl (And.intro (by assumption) (And.intro (by assumption) (And.intro (by rfl) ?_)))))))
  | refine w_callI (dds := []) (fun _ => .nil) (Exists.intro _ rfl) ?_
  | refine w_callI0 (dds := []) (fun _ => .nil) (Exists.intro _ rfl) ?_
  | refine w_call (dds := []) (fun _ => .nil) ?_
  | refine w_call0 (dds := []) (fun _ => .nil) ?_
  | refine w_make (dds := []) (fun _ => .nil) ?_
  | refine w_make0 (dds := []) (fun _ => .nil) ?_
  | refine w_meth (dds := []) (fun _ => .nil) ?_
  | refine w_meth0 (dds := []) (fun _ => .nil) ?_
  | refine And.intro (small (by simp only [List.length_cons, List.length_nil]; omega)) ?_
  | refine Exists.intro _ (Exists.intro _ (And.intro rfl (And.intro (by decide) ?_)))
  | refine Or.inl (Exists.intro _ (And.intro rfl ?_))
  | refine Or.inr (Exists.intro _ (And.intro rfl ?_))
  | refine And.intro rfl ?_)
local macro_rules | `(tactic| walk_at "nl") => `(tactic| repeat (first | walk_at "n1" | (dsimp only [onx, rets, lpe, rets1, List.cons_append, List.nil_append])))

local macro_rules | `(tactic| walk_at "f1") => `(tactic| with_reducible first
  | refine s_seq ?_
  | refine iteT ?_
  | refine iteF ?_
  | refine s_asg ?_
  | refine g_nm rfl rfl ?_
  | refine s_ifF ?_
  | refine s_ret ?_
  | refine s_next ?_
  | refine s_retN ?_
  | refine s_drop ?_
  | refine s_brk ?_
  | refine s_cont ?_
  | refine s_aug1 rfl rfl ?_
  | refine s_fldO ?_
  | refine Exists.intro _ (Exists.intro _ (Exists.intro _ (And.intro rfl (And.intro (by assumption) (And.intro (by assumption) (And.intro (by decide) ?_))))))
  | refine w_var rfl ?_
  | refine w_int ?_
  | refine w_str ?_
  | refine w_bl ?_
  | refine w_non ?_
  | refine t_cmp ?_
  | refine rd_ixO rfl rfl ?_
  | refine w_op ?_
  | refine w_un ?_
  | refine w_chain ?_
  | refine t_test ?_
  | refine t_B ?_
  | refine t_not ?_
  | refine t_and ?_
  | refine t_orF ?_
  | refine w_andV ?_
  | refine w_orV ?_
  | refine w_notV ?_
  | refine w_tup ?_
  | refine w_lst ?_
  | refine w_isiInt ?_
  | refine w_rev ?_
  | refine w_cb ?_
  | refine w_sl ?_
  | refine w_join ?_
  | refine t_yes ?_
  | refine w_m1 ?_
  | refine rj_find ?_
  | refine rj_count ?_
  | refine w_joined ?_
  | refine a_nil ?_
  | refine a_cons ?_
  | refine o_none ?_
  | refine o_some ?_
  | refine g_tup rfl ?_
  | refine g_setO rfl rfl ?_
  | refine gs_nil ?_
  | refine gs_cons ?_
  | refine j_nil ?_
  | refine j_cons ?_
  | refine rd_lt ?_
  | refine rd_le ?_
  | refine rd_gt ?_
  | refine rd_ge ?_
  | refine rd_sub ?_
  | refine rd_mod (by first | decide | assumption) ?_
  | refine rd_div (by first | decide | (constructor <;> omega)) ?_
  | refine rd_mulR (by decide) ?_
  | refine rd_powC (by decide) ?_
  | refine rd_addI ?_
  | refine rd_eqI ?_
  | refine rd_neI ?_
  | refine rd_eqS ?_
  | refine rd_neS ?_
  | refine rd_eqB ?_
  | refine rd_neB ?_
  | refine rd_ipa ?_
  | refine rd_ips ?_
  | refine ru_neg ?_
  | refine rx_lenT ?_
  | refine rx_lenL ?_
  | refine rx_abs ?_
  | refine rc_intI ?_
  | refine rc_intB ?_
  | refine rc_tupT ?_
  | refine rc_tupL ?_
  | refine rc_tupR ?_
  | refine rs_tup ?_
  | refine rs_lst ?_
  | refine w_fldO rfl (by assumption) (by assumption) rfl ?_
  | refine w_fldV rfl (by assumption) (by assumption) rfl ?_
  | refine w_fld ?_
  | refine Exists.intro _ (And.intro rfl ?_)
  | refine Exists.intro _ (Exists.intro _ (Exists.intro _ (Exists.intro _ (And.intro rfl (And.intro (by assumption) (And.intro (by assumption) (And.intro (by rfl) ?_)))))))
  | refine w_callI (dds := []) (fun _ => .nil) (Exists.intro _ rfl) ?_
  | refine w_callI0 (dds := []) (fun _ => .nil) (Exists.intro _ rfl) ?_
  | refine w_call (dds := []) (fun _ => .nil) ?_
  | refine w_call0 (dds := []) (fun _ => .nil) ?_
  | refine w_make (dds := []) (fun _ => .nil) ?_
  | refine w_make0 (dds := []) (fun _ => .nil) ?_
  | refine w_meth (dds := []) (fun _ => .nil) ?_
  | refine w_meth0 (dds := []) (fun _ => .nil) ?_
  | refine And.intro (small (by simp only [List.length_cons, List.length_nil]; omega)) ?_
  | refine Exists.intro _ (Exists.intro _ (And.intro rfl (And.intro (by decide) ?_)))
  | refine Or.inl (Exists.intro _ (And.intro rfl ?_))
  | refine Or.inr (Exists.intro _ (And.intro rfl ?_))
  | refine And.intro rfl ?_)
local macro_rules | `(tactic| walk_at "fl") => `(tactic| repeat (first | walk_at "f1" | (dsimp only [onx, rets, lpe, rets1, List.cons_append, List.nil_append])))

theorem cut_last : ∀ {xs : List Int}, trim xs = xs → cut xs (some (-1)) none ≠ [0] := by
  intro xs
  induction xs using snoc_rec with
  | h0 => intro _ h; simp [cut] at h
  | h1 xs x ih =>
    intro ht
    have e : cut (xs ++ [x]) (some (-1)) none = [x] := by
      have h1 : HT.sIx (xs ++ [x]).length 0 (some (-1)) = xs.length := by
        show (if (-1 : Int) < 0 then ((-1 : Int) + ((xs ++ [x]).length : Int)).toNat else min (Int.toNat (-1)) (xs ++ [x]).length) = _
        rw [if_pos (by decide), List.length_append, List.length_singleton]
        omega
      have h2 : HT.sIx (xs ++ [x]).length (xs ++ [x]).length none = xs.length + 1 := by
        show (xs ++ [x]).length = _
        rw [List.length_append, List.length_singleton]
      unfold cut
      rw [h1, h2, List.drop_left, Nat.add_sub_cancel_left]
      rfl
    rw [e]
    intro h
    have hx : x = 0 := by simpa using h
    rw [hx, trim_zero] at ht
    have := trim_len xs
    rw [ht, List.length_append, List.length_singleton] at this
    omega
section
variable {P : Program} {w : World} {K : PySem.W.Frag} {Tb : TbT} {mg : Str → Option Value} {base : Heap}
theorem seg_3 {f c : Addr} {C X : Addr} (T : Tx K mg) (cc : TC K C) (Md_Tape_shown : Md P w K mg base C "shown" P_Tape_shown [] 1 (spD K Tb (pm_shown C))) (Md_Tape_word : Md P w K mg base C "word" P_Tape_word [] 1 (spD K Tb (pm_word C))) {A : Around} {outer : List Env} {s : Shared} {H : Hp} {E : XK} (hr : Room 6 (A.deeper (PyProof.Rows.envOfC "law" (defScope s_law) s.heap.objs.size f (.ref c)))) {tr : TS} (h : PSs (cxOf (L2.CX P w) P w K mg base N_law "law" (defScope s_law) f (.ref c) A outer s H E) (dayB.drop 7) tr) :
    ∃ t, PSs (cxOf (L2.CX P w) P w K mg base N_law "law" (defScope s_law) f (.ref c) A outer s H E) (dayB.drop 5) t ∧ ∀ Γ Ψ, (∃ d t p kvs, IsDice d ∧ Rel 8 t p kvs ∧ (∀ x ∈ t.word, x < 3) ∧ Γ = [.un, .ow d, .im (t.d C), .im (dKd (kd kvs)), .im (.int p), .un, .un, .un, .un, .un, .un, .un, .un, .un, .un, .un, .un, .un, .un, .un, .un, .un, .un]) → (∀ Γ', (∃ d t p kvs, IsDice d ∧ Rel 8 t p kvs ∧ (∀ x ∈ t.word, x < 3) ∧ Γ' = [.un, .ow d, .im (t.d C), .im (dKd (kd kvs)), .im (.int p), .un, .un, .un, .un, .im (.tup (dI t.l)), .im (.int t.h), .im (.tup (dI t.r)), .un, .un, .un, .un, .un, .un, .un, .un, .un, .un, .un]) → Ws ⟨K, Tb, [], E, fun _ => False, True⟩ tr Γ' Ψ) → Ws ⟨K, Tb, [], E, fun _ => False, True⟩ t Γ Ψ := by
  have tE : Takes (cxOf (L2.CX P w) P w K mg base N_law "law" (defScope s_law) f (.ref c) A outer s H E) (fun cls d _ H => E cls d H) := takes_of rfl rfl rfl rfl
  have pE : Passes (L2.CX P w) (cxOf (L2.CX P w) P w K mg base N_law "law" (defScope s_law) f (.ref c) A outer s H E) E := passes_call tE fun _ _ _ _ h => h
  refine ⟨_, (pss_cons (ps_asg (pe_md0 Md_Tape_shown (pv 2) (hr.mono (by decide)) pE) (pg_tupK (n := 3) K rfl rfl (pgs_cons (pg_name (i := 9) sc_law.nd rfl (by first | exact Or.inl rfl | exact Or.inr rfl)) (pgs_cons (pg_name (i := 10) sc_law.nd rfl (by first | exact Or.inl rfl | exact Or.inr rfl)) (pgs_cons (pg_name (i := 11) sc_law.nd rfl (by first | exact Or.inl rfl | exact Or.inr rfl)) pgs_nil)))))
      (pss_cons (ps_if (PW.pt (pw_or (pt_cmpR (op_eqK K rfl hr.units) (pe_slice (sl_K K rfl) (pv 9) (po_some (pe_un un_negX pe_int)) po_none) (pe_tup (pa_cons pe_int pa_nil)) (nomark _)) (pw_or (pt_cmpR (op_eqK K rfl hr.units) (pe_slice (sl_K K rfl) (pv 11) (po_some (pe_un un_negX pe_int)) po_none) (pe_tup (pa_cons pe_int pa_nil)) (nomark _)) (pw_or (pt_cmpR (op_neK K rfl hr.units) (pe_tup (pa_cons (pv 9) (pa_cons (pv 10) (pa_cons (pv 11) pa_nil)))) (pe_tup (pa_cons (pe_fldK K rfl (pv 2) rfl) (pa_cons (pe_fldK K rfl (pv 2) rfl) (pa_cons (pe_fldK K rfl (pv 2) rfl) pa_nil)))) (nomark _)) (pw_or1 (pt_cmpR (op_neK K rfl hr.units) (pe_md0 Md_Tape_word (pv 2) (hr.mono (by decide)) pE) (pe_op (op_addK K rfl) (pe_op (op_addK K rfl) (pe_revK K rfl (pv 9)) (pe_tup (pa_cons (pv 10) pa_nil))) (pv 11)) (nomark _))))))) (pss_one (ps_ret pe_bl)) pss_nil)
      h)), ?_⟩
  try simp only [cxOf_K]
  clear hr tE pE h

  rintro Γ Ψ ⟨d, t, p, kvs, id, rel, w3, rfl⟩ fin
  obtain ⟨ccl, cll, clh, clr⟩ := cc
  walk_at "fl"
  refine ⟨t, rfl, ?_⟩
  walk_at "fl"
  rw [dI_cut]
  refine rd_eqE (eqe_tup eqe_int) (by decide) _ [0] ⟨_, rfl, dF (cut_last rel.g.l) ?_⟩
  walk_at "fl"
  rw [dI_cut]
  refine rd_eqE (eqe_tup eqe_int) (by decide) _ [0] ⟨_, rfl, dF (cut_last rel.g.r) ?_⟩
  walk_at "fl"
  refine rd_neE (eqe_3 (eqe_tup eqe_int) (eqe_mono eqe_int (by decide)) (eqe_tup eqe_int)) (by decide) (t.l, t.h, t.r) (t.l, t.h, t.r) ⟨_, rfl, nF rfl ?_⟩
  walk_at "fl"
  have ok : t.ok := ⟨by have := rel.ll; omega, by have := rel.lr; omega⟩
  refine ⟨t, rfl, ok, ?_⟩
  walk_at "fl"
  have ol := ok.1
  have or' := ok.2
  rw [dI_rev, show [Dt.int t.h] = dI [t.h] from rfl]
  refine rd_addT (small (by rw [dI_len, dI_len, List.length_reverse]; simp; omega)) ?_
  rw [dI_app]
  walk_at "fl"
  refine rd_addT (small (by rw [dI_len, dI_len, List.length_append, List.length_reverse]; simp; omega)) ?_
  rw [dI_app]
  refine rd_neE (eqe_tup eqe_int) (by decide) t.word (t.l.reverse ++ [t.h] ++ t.r) ⟨_, rfl, nF rfl ?_⟩
  walk_at "fl"
  exact fin _ ⟨d, t, p, kvs, id, rel, w3, rfl⟩

end
end TW
namespace TW
open PySem L2 Evl DL
local macro_rules | `(tactic| walk_at "d1") => `(tactic| with_reducible first
  | refine s_seq ?_
  | refine iteT ?_
  | refine iteF ?_
  | refine s_asg ?_
  | refine g_nm rfl rfl ?_
  | refine s_if ?_
  | refine s_ret ?_
  | refine s_next ?_
  | refine s_retN ?_
  | refine s_drop ?_
  | refine s_brk ?_
  | refine s_cont ?_
  | refine s_aug1 rfl rfl ?_
  | refine s_fldO ?_
  | refine Exists.intro _ (Exists.intro _ (Exists.intro _ (And.intro rfl (And.intro (by assumption) (And.intro (by assumption) (And.intro (by decide) ?_))))))
  | refine w_var rfl ?_
  | refine w_int ?_
  | refine w_str ?_
  | refine w_bl ?_
  | refine w_non ?_
  | refine t_cmp ?_
  | refine rd_ixO rfl rfl ?_
  | refine w_op ?_
  | refine w_un ?_
  | refine w_chain ?_
  | refine t_test ?_
  | refine t_B ?_
  | refine t_not ?_
  | refine t_and ?_
  | refine t_or ?_
  | refine w_andV ?_
  | refine w_orV ?_
  | refine w_notV ?_
  | refine w_if ?_
  | refine w_tup ?_
  | refine w_lst ?_
  | refine w_isiInt ?_
  | refine w_rev ?_
  | refine w_cb ?_
  | refine w_sl ?_
  | refine w_join ?_
  | refine t_yes ?_
  | refine w_m1 ?_
  | refine rj_find ?_
  | refine rj_count ?_
  | refine w_joined ?_
  | refine a_nil ?_
  | refine a_cons ?_
  | refine o_none ?_
  | refine o_some ?_
  | refine g_tup rfl ?_
  | refine g_setO rfl rfl ?_
  | refine gs_nil ?_
  | refine gs_cons ?_
  | refine j_nil ?_
  | refine j_cons ?_
  | refine rd_lt ?_
  | refine rd_le ?_
  | refine rd_gt ?_
  | refine rd_ge ?_
  | refine rd_sub ?_
  | refine rd_mod (by first | decide | assumption) ?_
  | refine rd_div (by first | decide | (constructor <;> omega)) ?_
  | refine rd_mulR (by decide) ?_
  | refine rd_powC (by decide) ?_
  | refine rd_addI ?_
  | refine rd_eqI ?_
  | refine rd_neI ?_
  | refine rd_eqS ?_
  | refine rd_neS ?_
  | refine rd_eqB ?_
  | refine rd_neB ?_
  | refine rd_ipa ?_
  | refine rd_ips ?_
  | refine ru_neg ?_
  | refine rx_lenT ?_
  | refine rx_lenL ?_
  | refine rx_abs ?_
  | refine rc_intI ?_
  | refine rc_intB ?_
  | refine rc_tupT ?_
  | refine rc_tupL ?_
  | refine rc_tupR ?_
  | refine rs_tup ?_
  | refine rs_lst ?_
  | refine w_fldO rfl (by assumption) (by assumption) rfl ?_
  | refine w_fldV rfl (by assumption) (by assumption) rfl ?_
  | refine w_fld ?_
  | refine Exists.intro _ (And.intro rfl ?_)
  | refine Exists.intro _ (Exists.intro _ (Exists.intro _ (Exists.intro _ (And.intro rfl (And.intro (by assumption) (And.intro (by assumption) (And.intro (by rfl) ?_)))))))
  | refine w_callI (dds := []) (fun _ => .nil) (Exists.intro _ rfl) ?_
  | refine w_callI0 (dds := []) (fun _ => .nil) (Exists.intro _ rfl) ?_
  | refine w_call (dds := []) (fun _ => .nil) ?_
  | refine w_call0 (dds := []) (fun _ => .nil) ?_
  | refine w_make (dds := []) (fun _ => .nil) ?_
  | refine w_make0 (dds := []) (fun _ => .nil) ?_
  | refine w_meth (dds := []) (fun _ => .nil) ?_
  | refine w_meth0 (dds := []) (fun _ => .nil) ?_
  | refine And.intro (small (by simp only [List.length_cons, List.length_nil]; omega)) ?_
  | refine Exists.intro _ (Exists.intro _ (And.intro rfl (And.intro (by decide) ?_)))
  | refine Or.inl (Exists.intro _ (And.intro rfl ?_))
  | refine Or.inr (Exists.intro _ (And.intro rfl ?_))
  | refine And.intro rfl ?_)
local macro_rules | `(tactic| walk_at "dl") => `(tactic| repeat (first | walk_at "d1" | (dsimp only [onx, rets, lpe, rets1, List.cons_append, List.nil_append])))

local macro_rules | `(tactic| walk_at "n1") => `(tactic| with_reducible first
  | refine s_seq ?_
  | refine iteT ?_
  | refine iteF ?_
  | refine s_asg ?_
  | refine g_nm rfl rfl ?_
  | refine s_ret ?_
  | refine s_next ?_
  | refine s_retN ?_
  | refine s_drop ?_
  | refine s_brk ?_
  | refine s_cont ?_
  | refine s_aug1 rfl rfl ?_
  | refine s_fldO ?_
  | refine Exists.intro _ (Exists.intro _ (Exists.intro _ (And.intro rfl (And.intro (by assumption) (And.intro (by assumption) (And.intro (by decide) ?_))))))
  | refine w_var rfl ?_
  | refine w_int ?_
  | refine w_str ?_
  | refine w_bl ?_
  | refine w_non ?_
  | refine t_cmp ?_
  | refine rd_ixO rfl rfl ?_
  | refine w_op ?_
  | refine w_un ?_
  | refine w_chain ?_
  | refine t_test ?_
  | refine t_B ?_
  | refine t_not ?_
  | refine t_and ?_
  | refine t_or ?_
  | refine w_andV ?_
  | refine w_orV ?_
  | refine w_notV ?_
  | refine w_tup ?_
  | refine w_lst ?_
  | refine w_isiInt ?_
  | refine w_rev ?_
  | refine w_cb ?_
  | refine w_sl ?_
  | refine w_join ?_
  | refine t_yes ?_
  | refine w_m1 ?_
  | refine rj_find ?_
  | refine rj_count ?_
  | refine w_joined ?_
  | refine a_nil ?_
  | refine a_cons ?_
  | refine o_none ?_
  | refine o_some ?_
  | refine g_tup rfl ?_
  | refine g_setO rfl rfl ?_
  | refine gs_nil ?_
  | refine gs_cons ?_
  | refine j_nil ?_
  | refine j_cons ?_
  | refine rd_lt ?_
  | refine rd_le ?_
  | refine rd_gt ?_
  | refine rd_ge ?_
  | refine rd_sub ?_
  | refine rd_mod (by first | decide | assumption) ?_
  | refine rd_div (by first | decide | (constructor <;> omega)) ?_
  | refine rd_mulR (by decide) ?_
  | refine rd_powC (by decide) ?_
  | refine rd_addI ?_
  | refine rd_eqI ?_
  | refine rd_neI ?_
  | refine rd_eqS ?_
  | refine rd_neS ?_
  | refine rd_eqB ?_
  | refine rd_neB ?_
  | refine rd_ipa ?_
  | refine rd_ips ?_
  | refine ru_neg ?_
  | refine rx_lenT ?_
  | refine rx_lenL ?_
  | refine rx_abs ?_
  | refine rc_intI ?_
  | refine rc_intB ?_
  | refine rc_tupT ?_
  | refine rc_tupL ?_
  | refine rc_tupR ?_
  | refine rs_tup ?_
  | refine rs_lst ?_
  | refine w_fldO rfl (by assumption) (by assumption) rfl ?_
  | refine w_fldV rfl (by assumption) (by assumption) rfl ?_
  | refine w_fld ?_
  | refine Exists.intro _ (And.intro rfl ?_)
  | refine Exists.intro _ (Exists.intro _ (Exists.intro _ (Exists.intro _ (And.intro rfl (And.intro (by assumption) (And.intro (by assumption) (And.intro (by rfl) ?_)))))))
  | refine w_callI (dds := []) (fun _ => .nil) (Exists.intro _ rfl) ?_
  | refine w_callI0 (dds := []) (fun _ => .nil) (Exists.intro _ rfl) ?_
  | refine w_call (dds := []) (fun _ => .nil) ?_
  | refine w_call0 (dds := []) (fun _ => .nil) ?_
  | refine w_make (dds := []) (fun _ => .nil) ?_
  | refine w_make0 (dds := []) (fun _ => .nil) ?_
  | refine w_meth (dds := []) (fun _ => .nil) ?_
  | refine w_meth0 (dds := []) (fun _ => .nil) ?_
  | refine And.intro (small (by simp only [List.length_cons, List.length_nil]; omega)) ?_
  | refine Exists.intro _ (Exists.intro _ (And.intro rfl (And.intro (by decide) ?_)))
  | refine Or.inl (Exists.intro _ (And.intro rfl ?_))
  | refine Or.inr (Exists.intro _ (And.intro rfl ?_))
  | refine And.intro rfl ?_)
local macro_rules | `(tactic| walk_at "nl") => `(tactic| repeat (first | walk_at "n1" | (dsimp only [onx, rets, lpe, rets1, List.cons_append, List.nil_append])))

local macro_rules | `(tactic| walk_at "f1") => `(tactic| with_reducible first
  | refine s_seq ?_
  | refine iteT ?_
  | refine iteF ?_
  | refine s_asg ?_
  | refine g_nm rfl rfl ?_
  | refine s_ifF ?_
  | refine s_ret ?_
  | refine s_next ?_
  | refine s_retN ?_
  | refine s_drop ?_
  | refine s_brk ?_
  | refine s_cont ?_
  | refine s_aug1 rfl rfl ?_
  | refine s_fldO ?_
  | refine Exists.intro _ (Exists.intro _ (Exists.intro _ (And.intro rfl (And.intro (by assumption) (And.intro (by assumption) (And.intro (by decide) ?_))))))
  | refine w_var rfl ?_
  | refine w_int ?_
  | refine w_str ?_
  | refine w_bl ?_
  | refine w_non ?_
  | refine t_cmp ?_
  | refine rd_ixO rfl rfl ?_
  | refine w_op ?_
  | refine w_un ?_
  | refine w_chain ?_
  | refine t_test ?_
  | refine t_B ?_
  | refine t_not ?_
  | refine t_and ?_
  | refine t_orF ?_
  | refine w_andV ?_
  | refine w_orV ?_
  | refine w_notV ?_
  | refine w_tup ?_
  | refine w_lst ?_
  | refine w_isiInt ?_
  | refine w_rev ?_
  | refine w_cb ?_
  | refine w_sl ?_
  | refine w_join ?_
  | refine t_yes ?_
  | refine w_m1 ?_
  | refine rj_find ?_
  | refine rj_count ?_
  | refine w_joined ?_
  | refine a_nil ?_
  | refine a_cons ?_
  | refine o_none ?_
  | refine o_some ?_
  | refine g_tup rfl ?_
  | refine g_setO rfl rfl ?_
  | refine gs_nil ?_
  | refine gs_cons ?_
  | refine j_nil ?_
  | refine j_cons ?_
  | refine rd_lt ?_
  | refine rd_le ?_
  | refine rd_gt ?_
  | refine rd_ge ?_
  | refine rd_sub ?_
  | refine rd_mod (by first | decide | assumption) ?_
  | refine rd_div (by first | decide | (constructor <;> omega)) ?_
  | refine rd_mulR (by decide) ?_
  | refine rd_powC (by decide) ?_
  | refine rd_addI ?_
  | refine rd_eqI ?_
  | refine rd_neI ?_
  | refine rd_eqS ?_
  | refine rd_neS ?_
  | refine rd_eqB ?_
  | refine rd_neB ?_
  | refine rd_ipa ?_
  | refine rd_ips ?_
  | refine ru_neg ?_
  | refine rx_lenT ?_
  | refine rx_lenL ?_
  | refine rx_abs ?_
  | refine rc_intI ?_
  | refine rc_intB ?_
  | refine rc_tupT ?_
  | refine rc_tupL ?_
  | refine rc_tupR ?_
  | refine rs_tup ?_
  | refine rs_lst ?_
  | refine w_fldO rfl (by assumption) (by assumption) rfl ?_
  | refine w_fldV rfl (by assumption) (by assumption) rfl ?_
  | refine w_fld ?_
  | refine Exists.intro _ (And.intro rfl ?_)
  | refine Exists.intro _ (Exists.intro _ (Exists.intro _ (Exists.intro _ (And.intro rfl (And.intro (by assumption) (And.intro (by assumption) (And.intro (by rfl) ?_)))))))
  | refine w_callI (dds := []) (fun _ => .nil) (Exists.intro _ rfl) ?_
  | refine w_callI0 (dds := []) (fun _ => .nil) (Exists.intro _ rfl) ?_
  | refine w_call (dds := []) (fun _ => .nil) ?_
  | refine w_call0 (dds := []) (fun _ => .nil) ?_
  | refine w_make (dds := []) (fun _ => .nil) ?_
  | refine w_make0 (dds := []) (fun _ => .nil) ?_
  | refine w_meth (dds := []) (fun _ => .nil) ?_
  | refine w_meth0 (dds := []) (fun _ => .nil) ?_
  | refine And.intro (small (by simp only [List.length_cons, List.length_nil]; omega)) ?_
  | refine Exists.intro _ (Exists.intro _ (And.intro rfl (And.intro (by decide) ?_)))
  | refine Or.inl (Exists.intro _ (And.intro rfl ?_))
  | refine Or.inr (Exists.intro _ (And.intro rfl ?_))
  | refine And.intro rfl ?_)
local macro_rules | `(tactic| walk_at "fl") => `(tactic| repeat (first | walk_at "f1" | (dsimp only [onx, rets, lpe, rets1, List.cons_append, List.nil_append])))

theorem nzk_iff {kvs : List (Int × Int)} {k : Int} : k ∈ nzk kvs ↔ ig kvs k ≠ 0 := by
  unfold nzk
  rw [List.mem_filter]
  constructor
  · rintro ⟨_, h⟩ e
    rw [e] at h
    exact absurd h (by simp)
  · intro h
    refine ⟨?_, by simp [h]⟩
    refine Decidable.by_contra fun q => h ?_
    unfold ig
    rw [get_none q]
    rfl
theorem trim_last : ∀ {xs : List Int}, trim xs = xs → xs ≠ [] → ra xs (xs.length - 1) ≠ 0 := by
  intro xs
  induction xs using snoc_rec with
  | h0 => intro _ h; exact (h rfl).elim
  | h1 xs x ih =>
    intro ht _
    have e : ra (xs ++ [x]) ((xs ++ [x]).length - 1) = x := by
      rw [List.length_append, List.length_singleton, Nat.add_sub_cancel]
      unfold ra
      rw [List.getElem?_append_right (Nat.le_refl _), Nat.sub_self]
      rfl
    rw [e]
    intro hx
    rw [hx, trim_zero] at ht
    have := trim_len xs
    rw [ht, List.length_append, List.length_singleton] at this
    omega
theorem Rel.span {m : Nat} {t : Tp} {p : Int} {kvs : List (Int × Int)} (r : Rel m t p kvs) {m1 m2 : Int} (h1 : m1 ∈ nzk kvs ++ [p]) (l1 : ∀ y ∈ nzk kvs ++ [p], m1 ≤ y) (h2 : m2 ∈ nzk kvs ++ [p]) (l2 : ∀ y ∈ nzk kvs ++ [p], y ≤ m2) : m2 - m1 + 1 = t.word.length := by
  have inn : ∀ y ∈ nzk kvs ++ [p], p - (t.l.length : Int) ≤ y ∧ y ≤ p + t.r.length := fun y hy => by
    rcases List.mem_append.mp hy with h | h
    · rw [nzk_iff, ← r.sg] at h
      rcases int3 (y - p) with e | ⟨n, e⟩ | ⟨n, e⟩
      · omega
      · rw [e, at_p] at h
        have : n < t.r.length := Nat.lt_of_not_le fun q => h (ra_out q)
        omega
      · rw [e, at_n] at h
        have : n < t.l.length := Nat.lt_of_not_le fun q => h (ra_out q)
        omega
    · rw [List.mem_singleton.mp h]
      omega
  have a1 : p - (t.l.length : Int) ∈ nzk kvs ++ [p] := by
    by_cases e : t.l = []
    · rw [e]
      simp
    · have q := trim_last r.g.l e
      have hl : 0 < t.l.length := List.length_pos_iff.mpr e
      refine List.mem_append_left _ (nzk_iff.mpr ?_)
      rw [← r.sg, show p - (t.l.length : Int) - p = -(((t.l.length - 1 : Nat) : Int) + 1) by omega, at_n]
      exact q
  have a2 : p + (t.r.length : Int) ∈ nzk kvs ++ [p] := by
    by_cases e : t.r = []
    · rw [e]
      simp
    · have q := trim_last r.g.r e
      have hl : 0 < t.r.length := List.length_pos_iff.mpr e
      refine List.mem_append_left _ (nzk_iff.mpr ?_)
      rw [← r.sg, show p + (t.r.length : Int) - p = ((t.r.length - 1 : Nat) : Int) + 1 by omega, at_p]
      exact q
  have b1 := l1 _ a1
  have b2 := l2 _ a2
  have c1 := inn _ h1
  have c2 := inn _ h2
  unfold Tp.word
  simp only [List.length_append, List.length_reverse, List.length_singleton]
  omega
section
variable {P : Program} {w : World} {K : PySem.W.Frag} {Tb : TbT} {mg : Str → Option Value} {base : Heap}
theorem seg_4 {f c : Addr} {C X : Addr} (T : Tx K mg) (T2 : Ty K mg) (Md_Tape_span : Md P w K mg base C "span" P_Tape_span [] 2 (spD K Tb (pm_span C))) {A : Around} {outer : List Env} {s : Shared} {H : Hp} {E : XK} (hr : Room 6 (A.deeper (PyProof.Rows.envOfC "law" (defScope s_law) s.heap.objs.size f (.ref c)))) {tr : TS} (h : PSs (cxOf (L2.CX P w) P w K mg base N_law "law" (defScope s_law) f (.ref c) A outer s H E) (dayB.drop 9) tr) :
    ∃ t, PSs (cxOf (L2.CX P w) P w K mg base N_law "law" (defScope s_law) f (.ref c) A outer s H E) (dayB.drop 7) t ∧ ∀ Γ Ψ, (∃ d t p kvs, IsDice d ∧ Rel 8 t p kvs ∧ (∀ x ∈ t.word, x < 3) ∧ Γ = [.un, .ow d, .im (t.d C), .im (dKd (kd kvs)), .im (.int p), .un, .un, .un, .un, .im (.tup (dI t.l)), .im (.int t.h), .im (.tup (dI t.r)), .un, .un, .un, .un, .un, .un, .un, .un, .un, .un, .un]) → (∀ Γ', (∃ (d : Dt) (t : Tp), IsDice d ∧ t.G ∧ t.l.length ≤ 11 ∧ t.r.length ≤ 11 ∧ (∀ x ∈ t.word, x < 3) ∧ Γ' = [.un, .ow d, .im (t.d C), .un, .un, .un, .un, .un, .un, .im (.tup (dI t.l)), .im (.int t.h), .im (.tup (dI t.r)), .un, .un, .un, .un, .un, .un, .un, .un, .un, .un, .un]) → Ws ⟨K, Tb, [], E, fun _ => False, True⟩ tr Γ' Ψ) → Ws ⟨K, Tb, [], E, fun _ => False, True⟩ t Γ Ψ := by
  have tE : Takes (cxOf (L2.CX P w) P w K mg base N_law "law" (defScope s_law) f (.ref c) A outer s H E) (fun cls d _ H => E cls d H) := takes_of rfl rfl rfl rfl
  have pE : Passes (L2.CX P w) (cxOf (L2.CX P w) P w K mg base N_law "law" (defScope s_law) f (.ref c) A outer s H E) E := passes_call tE fun _ _ _ _ h => h
  refine ⟨_, (pss_cons (ps_set (i := 12) sc_law.nd rfl (by first | exact Or.inl rfl | exact Or.inr rfl) (pe_op (op_addK K rfl) (pe_lk (pe_lc (own := [("k", 5)]) rfl sc_law.nd (pi_keys (pv 3)) (blkOk_by (N := N_law) (sc := defScope s_law) (by decide +kernel)) (fun _ _ _ _ _ => (pg_name (i := 5) sc_law.nd rfl (by first | exact Or.inl rfl | exact Or.inr rfl))) (fun _ _ _ _ _ => pts_one (pt_cmpR (op_neK K rfl hr.units) (pe_dget (u1 hr.units) (pv 3) (pv 5) (fun _ _ => rfl)) pe_int (nomark _))) (fun _ _ _ _ _ => (pv 5)))) (pe_lst (pa_cons (pv 4) pa_nil))))
      (pss_cons (ps_if (pt_cmpR (op_neK K rfl hr.units) (pe_md0 Md_Tape_span (pv 2) (hr.mono (by decide)) pE) (pe_op (op_addK K rfl) (pe_op op_subX (pe_callB (cr_maxK' K rfl rfl) (by rfl) T2.max (by decide +kernel) (pa_cons (pv 12) pa_nil)) (pe_callB (cr_minK' K rfl rfl) (by rfl) T2.min (by decide +kernel) (pa_cons (pv 12) pa_nil))) pe_int) (nomark _)) (pss_one (ps_ret pe_bl)) pss_nil)
      h)), ?_⟩
  try simp only [cxOf_K]
  clear hr tE pE h

  rintro Γ Ψ ⟨d, t, p, kvs, id, rel, w3, rfl⟩ fin
  have len := rel.len
  have kl : (keys kvs).length = kvs.length := List.length_map _
  have nl : (nzk kvs).length ≤ kvs.length := by rw [← kl]; exact List.length_filter_le _ _
  walk_at "fl"
  refine w_lcDF dw_keys (v_var (d := .dK ((kd kvs).map (·.1)) ((kd kvs).map (·.2))) rfl) rfl (tgt_name (by simp)) (small (by simp [kd_len]; omega)) (fun d => match d with | .int i => !decide (ig kvs i = 0) | _ => false) _root_.id (fun i d ed => ?_) ?_
  · rw [keys_kd] at ed
    obtain ⟨x, ex, rfl⟩ := dI_at ed
    walk_at "nl"
    refine w_dget ?_
    walk_at "nl"
    refine ⟨_, _, rfl, ?_⟩
    walk_at "nl"
    refine ⟨_, _, rfl, (dget_kd x kvs).trans (ig_in (List.mem_of_getElem? ex)), ?_⟩
    walk_at "nl"
    refine ite_nb (fun h => ?_) fun h => ?_
    · walk_at "nl"
      rfl
    · rfl
  rw [keys_kd, List.map_id, filt_dI (fun i => !decide (ig kvs i = 0)) _ (fun i => rfl), show (keys kvs).filter (fun i => !decide (ig kvs i = 0)) = nzk kvs from rfl]
  walk_at "fl"
  rw [show [Dt.int p] = dI [p] from rfl]
  refine rd_addL (small (by rw [dI_len]; simp [dI_len]; omega)) ?_
  rw [dI_app]
  walk_at "fl"
  have ok : t.ok := ⟨by have := rel.ll; omega, by have := rel.lr; omega⟩
  refine ⟨t, rfl, ok, ?_⟩
  walk_at "fl"
  refine rc_max (ns := nzk kvs ++ [p]) (by simp) fun m2 h2 l2 => ?_
  walk_at "fl"
  refine rc_min (ns := nzk kvs ++ [p]) (by simp) fun m1 h1 l1 => ?_
  walk_at "fl"
  refine nF (rel.span h1 l1 h2 l2).symm ?_
  walk_at "fl"
  refine s_wipe [3, 4, 12] rfl (fin _ ⟨d, t, id, rel.g, rel.ll, rel.lr, w3, rfl⟩)

end
end TW
namespace TW
open PySem L2 Evl DL
local macro_rules | `(tactic| walk_at "d1") => `(tactic| with_reducible first
  | refine s_seq ?_
  | refine iteT ?_
  | refine iteF ?_
  | refine s_asg ?_
  | refine g_nm rfl rfl ?_
  | refine s_if ?_
  | refine s_ret ?_
  | refine s_next ?_
  | refine s_retN ?_
  | refine s_drop ?_
  | refine s_brk ?_
  | refine s_cont ?_
  | refine s_aug1 rfl rfl ?_
  | refine s_fldO ?_
  | refine Exists.intro _ (Exists.intro _ (Exists.intro _ (And.intro rfl (And.intro (by assumption) (And.intro (by assumption) (And.intro (by decide) ?_))))))
  | refine w_var rfl ?_
  | refine w_int ?_
  | refine w_str ?_
  | refine w_bl ?_
  | refine w_non ?_
  | refine t_cmp ?_
  | refine rd_ixO rfl rfl ?_
  | refine w_op ?_
  | refine w_un ?_
  | refine w_chain ?_
  | refine t_test ?_
  | refine t_B ?_
  | refine t_not ?_
  | refine t_and ?_
  | refine t_or ?_
  | refine w_andV ?_
  | refine w_orV ?_
  | refine w_notV ?_
  | refine w_if ?_
  | refine w_tup ?_
  | refine w_lst ?_
  | refine w_isiInt ?_
  | refine w_rev ?_
  | refine w_cb ?_
  | refine w_sl ?_
  | refine w_join ?_
  | refine t_yes ?_
  | refine w_m1 ?_
  | refine rj_find ?_
  | refine rj_count ?_
  | refine w_joined ?_
  | refine a_nil ?_
  | refine a_cons ?_
  | refine o_none ?_
  | refine o_some ?_
  | refine g_tup rfl ?_
  | refine g_setO rfl rfl ?_
  | refine gs_nil ?_
  | refine gs_cons ?_
  | refine j_nil ?_
  | refine j_cons ?_
  | refine rd_lt ?_
  | refine rd_le ?_
  | refine rd_gt ?_
  | refine rd_ge ?_
  | refine rd_sub ?_
  | refine rd_mod (by first | decide | assumption) ?_
  | refine rd_div (by first | decide | (constructor <;> omega)) ?_
  | refine rd_mulR (by decide) ?_
  | refine rd_powC (by decide) ?_
  | refine rd_addI ?_
  | refine rd_eqI ?_
  | refine rd_neI ?_
  | refine rd_eqS ?_
  | refine rd_neS ?_
  | refine rd_eqB ?_
  | refine rd_neB ?_
  | refine rd_ipa ?_
  | refine rd_ips ?_
  | refine ru_neg ?_
  | refine rx_lenT ?_
  | refine rx_lenL ?_
  | refine rx_abs ?_
  | refine rc_intI ?_
  | refine rc_intB ?_
  | refine rc_tupT ?_
  | refine rc_tupL ?_
  | refine rc_tupR ?_
  | refine rs_tup ?_
  | refine rs_lst ?_
  | refine w_fldO rfl (by assumption) (by assumption) rfl ?_
  | refine w_fldV rfl (by assumption) (by assumption) rfl ?_
  | refine w_fld ?_
  | refine Exists.intro _ (And.intro rfl ?_)
  | refine Exists.intro _ (Exists.intro _ (Exists.intro _ (Exists.intro _ (And.intro rfl (And.intro (by assumption) (And.intro (by assumption) (And.intro (by rfl) ?_)))))))
  | refine w_callI (dds := []) (fun _ => .nil) (Exists.intro _ rfl) ?_
  | refine w_callI0 (dds := []) (fun _ => .nil) (Exists.intro _ rfl) ?_
  | refine w_call (dds := []) (fun _ => .nil) ?_
  | refine w_call0 (dds := []) (fun _ => .nil) ?_
  | refine w_make (dds := []) (fun _ => .nil) ?_
  | refine w_make0 (dds := []) (fun _ => .nil) ?_
  | refine w_meth (dds := []) (fun _ => .nil) ?_
  | refine w_meth0 (dds := []) (fun _ => .nil) ?_
  | refine And.intro (small (by simp only [List.length_cons, List.length_nil]; omega)) ?_
  | refine Exists.intro _ (Exists.intro _ (And.intro rfl (And.intro (by decide) ?_)))
  | refine Or.inl (Exists.intro _ (And.intro rfl ?_))
  | refine Or.inr (Exists.intro _ (And.intro rfl ?_))
  | refine And.intro rfl ?_)
local macro_rules | `(tactic| walk_at "dl") => `(tactic| repeat (first | walk_at "d1" | (dsimp only [onx, rets, lpe, rets1, List.cons_append, List.nil_append])))

local macro_rules | `(tactic| walk_at "n1") => `(tactic| with_reducible first
  | refine s_seq ?_
  | refine iteT ?_
  | refine iteF ?_
  | refine s_asg ?_
  | refine g_nm rfl rfl ?_
  | refine s_ret ?_
  | refine s_next ?_
  | refine s_retN ?_
  | refine s_drop ?_
  | refine s_brk ?_
  | refine s_cont ?_
  | refine s_aug1 rfl rfl ?_
  | refine s_fldO ?_
  | refine Exists.intro _ (Exists.intro _ (Exists.intro _ (And.intro rfl (And.intro (by assumption) (And.intro (by assumption) (And.intro (by decide) ?_))))))
  | refine w_var rfl ?_
  | refine w_int ?_
  | refine w_str ?_
  | refine w_bl ?_
  | refine w_non ?_
  | refine t_cmp ?_
  | refine rd_ixO rfl rfl ?_
  | refine w_op ?_
  | refine w_un ?_
  | refine w_chain ?_
  | refine t_test ?_
  | refine t_B ?_
  | refine t_not ?_
  | refine t_and ?_
  | refine t_or ?_
  | refine w_andV ?_
  | refine w_orV ?_
  | refine w_notV ?_
  | refine w_tup ?_
  | refine w_lst ?_
  | refine w_isiInt ?_
  | refine w_rev ?_
  | refine w_cb ?_
  | refine w_sl ?_
  | refine w_join ?_
  | refine t_yes ?_
  | refine w_m1 ?_
  | refine rj_find ?_
  | refine rj_count ?_
  | refine w_joined ?_
  | refine a_nil ?_
  | refine a_cons ?_
  | refine o_none ?_
  | refine o_some ?_
  | refine g_tup rfl ?_
  | refine g_setO rfl rfl ?_
  | refine gs_nil ?_
  | refine gs_cons ?_
  | refine j_nil ?_
  | refine j_cons ?_
  | refine rd_lt ?_
  | refine rd_le ?_
  | refine rd_gt ?_
  | refine rd_ge ?_
  | refine rd_sub ?_
  | refine rd_mod (by first | decide | assumption) ?_
  | refine rd_div (by first | decide | (constructor <;> omega)) ?_
  | refine rd_mulR (by decide) ?_
  | refine rd_powC (by decide) ?_
  | refine rd_addI ?_
  | refine rd_eqI ?_
  | refine rd_neI ?_
  | refine rd_eqS ?_
  | refine rd_neS ?_
  | refine rd_eqB ?_
  | refine rd_neB ?_
  | refine rd_ipa ?_
  | refine rd_ips ?_
  | refine ru_neg ?_
  | refine rx_lenT ?_
  | refine rx_lenL ?_
  | refine rx_abs ?_
  | refine rc_intI ?_
  | refine rc_intB ?_
  | refine rc_tupT ?_
  | refine rc_tupL ?_
  | refine rc_tupR ?_
  | refine rs_tup ?_
  | refine rs_lst ?_
  | refine w_fldO rfl (by assumption) (by assumption) rfl ?_
  | refine w_fldV rfl (by assumption) (by assumption) rfl ?_
  | refine w_fld ?_
  | refine Exists.intro _ (And.intro rfl ?_)
  | refine Exists.intro _ (Exists.intro _ (Exists.intro _ (Exists.intro _ (And.intro rfl (And.intro (by assumption) (And.intro (by assumption) (And.intro (by rfl) ?_)))))))
  | refine w_callI (dds := []) (fun _ => .nil) (Exists.intro _ rfl) ?_
  | refine w_callI0 (dds := []) (fun _ => .nil) (Exists.intro _ rfl) ?_
  | refine w_call (dds := []) (fun _ => .nil) ?_
  | refine w_call0 (dds := []) (fun _ => .nil) ?_
  | refine w_make (dds := []) (fun _ => .nil) ?_
  | refine w_make0 (dds := []) (fun _ => .nil) ?_
  | refine w_meth (dds := []) (fun _ => .nil) ?_
  | refine w_meth0 (dds := []) (fun _ => .nil) ?_
  | refine And.intro (small (by simp only [List.length_cons, List.length_nil]; omega)) ?_
  | refine Exists.intro _ (Exists.intro _ (And.intro rfl (And.intro (by decide) ?_)))
  | refine Or.inl (Exists.intro _ (And.intro rfl ?_))
  | refine Or.inr (Exists.intro _ (And.intro rfl ?_))
  | refine And.intro rfl ?_)
local macro_rules | `(tactic| walk_at "nl") => `(tactic| repeat (first | walk_at "n1" | (dsimp only [onx, rets, lpe, rets1, List.cons_append, List.nil_append])))

local macro_rules | `(tactic| walk_at "f1") => `(tactic| with_reducible first
  | refine s_seq ?_
  | refine iteT ?_
  | refine iteF ?_
  | refine s_asg ?_
  | refine g_nm rfl rfl ?_
  | refine s_ifF ?_
  | refine s_ret ?_
  | refine s_next ?_
  | refine s_retN ?_
  | refine s_drop ?_
  | refine s_brk ?_
  | refine s_cont ?_
  | refine s_aug1 rfl rfl ?_
  | refine s_fldO ?_
  | refine Exists.intro _ (Exists.intro _ (Exists.intro _ (And.intro rfl (And.intro (by assumption) (And.intro (by assumption) (And.intro (by decide) ?_))))))
  | refine w_var rfl ?_
  | refine w_int ?_
  | refine w_str ?_
  | refine w_bl ?_
  | refine w_non ?_
  | refine t_cmp ?_
  | refine rd_ixO rfl rfl ?_
  | refine w_op ?_
  | refine w_un ?_
  | refine w_chain ?_
  | refine t_test ?_
  | refine t_B ?_
  | refine t_not ?_
  | refine t_and ?_
  | refine t_orF ?_
  | refine w_andV ?_
  | refine w_orV ?_
  | refine w_notV ?_
  | refine w_tup ?_
  | refine w_lst ?_
  | refine w_isiInt ?_
  | refine w_rev ?_
  | refine w_cb ?_
  | refine w_sl ?_
  | refine w_join ?_
  | refine t_yes ?_
  | refine w_m1 ?_
  | refine rj_find ?_
  | refine rj_count ?_
  | refine w_joined ?_
  | refine a_nil ?_
  | refine a_cons ?_
  | refine o_none ?_
  | refine o_some ?_
  | refine g_tup rfl ?_
  | refine g_setO rfl rfl ?_
  | refine gs_nil ?_
  | refine gs_cons ?_
  | refine j_nil ?_
  | refine j_cons ?_
  | refine rd_lt ?_
  | refine rd_le ?_
  | refine rd_gt ?_
  | refine rd_ge ?_
  | refine rd_sub ?_
  | refine rd_mod (by first | decide | assumption) ?_
  | refine rd_div (by first | decide | (constructor <;> omega)) ?_
  | refine rd_mulR (by decide) ?_
  | refine rd_powC (by decide) ?_
  | refine rd_addI ?_
  | refine rd_eqI ?_
  | refine rd_neI ?_
  | refine rd_eqS ?_
  | refine rd_neS ?_
  | refine rd_eqB ?_
  | refine rd_neB ?_
  | refine rd_ipa ?_
  | refine rd_ips ?_
  | refine ru_neg ?_
  | refine rx_lenT ?_
  | refine rx_lenL ?_
  | refine rx_abs ?_
  | refine rc_intI ?_
  | refine rc_intB ?_
  | refine rc_tupT ?_
  | refine rc_tupL ?_
  | refine rc_tupR ?_
  | refine rs_tup ?_
  | refine rs_lst ?_
  | refine w_fldO rfl (by assumption) (by assumption) rfl ?_
  | refine w_fldV rfl (by assumption) (by assumption) rfl ?_
  | refine w_fld ?_
  | refine Exists.intro _ (And.intro rfl ?_)
  | refine Exists.intro _ (Exists.intro _ (Exists.intro _ (Exists.intro _ (And.intro rfl (And.intro (by assumption) (And.intro (by assumption) (And.intro (by rfl) ?_)))))))
  | refine w_callI (dds := []) (fun _ => .nil) (Exists.intro _ rfl) ?_
  | refine w_callI0 (dds := []) (fun _ => .nil) (Exists.intro _ rfl) ?_
  | refine w_call (dds := []) (fun _ => .nil) ?_
  | refine w_call0 (dds := []) (fun _ => .nil) ?_
  | refine w_make (dds := []) (fun _ => .nil) ?_
  | refine w_make0 (dds := []) (fun _ => .nil) ?_
  | refine w_meth (dds := []) (fun _ => .nil) ?_
  | refine w_meth0 (dds := []) (fun _ => .nil) ?_
  | refine And.intro (small (by simp only [List.length_cons, List.length_nil]; omega)) ?_
  | refine Exists.intro _ (Exists.intro _ (And.intro rfl (And.intro (by decide) ?_)))
  | refine Or.inl (Exists.intro _ (And.intro rfl ?_))
  | refine Or.inr (Exists.intro _ (And.intro rfl ?_))
  | refine And.intro rfl ?_)
local macro_rules | `(tactic| walk_at "fl") => `(tactic| repeat (first | walk_at "f1" | (dsimp only [onx, rets, lpe, rets1, List.cons_append, List.nil_append])))

theorem rd_shown {K : PySem.W.Frag} {P : Dt → Prop} {l l' r r' : List Int} {h h' : Int} (q : P (.bl (!decide ((l, h, r) = (l', h', r'))))) : RD K (rNeX K) (.tup [.tup (dI l), .int h, .tup (dI r)]) (.tup [.tup (dI l'), .int h', .tup (dI r')]) P :=
  rd_neE (eqe_3 (eqe_tup eqe_int) (eqe_mono eqe_int (by decide)) (eqe_tup eqe_int)) (by decide) (l, h, r) (l', h', r') q
section
variable {P : Program} {w : World} {K : PySem.W.Frag} {Tb : TbT} {mg : Str → Option Value} {base : Heap}
theorem seg_5 {f c : Addr} {C X : Addr} (T : Tx K mg) (T2 : Ty K mg) (Fd_told_tape : Fd P w K mg base "told_tape" P_told_tape [] 2 (spD K Tb (pm_told_tape C X))) (Fd_read_tape : Fd P w K mg base "read_tape" P_read_tape [] 4 (spD K Tb (pm_read_tape C X))) (Md_Tape_shown : Md P w K mg base C "shown" P_Tape_shown [] 1 (spD K Tb (pm_shown C))) {A : Around} {outer : List Env} {s : Shared} {H : Hp} {E : XK} (hr : Room 6 (A.deeper (PyProof.Rows.envOfC "law" (defScope s_law) s.heap.objs.size f (.ref c)))) {tr : TS} (h : PSs (cxOf (L2.CX P w) P w K mg base N_law "law" (defScope s_law) f (.ref c) A outer s H E) (dayB.drop 11) tr) :
    ∃ t, PSs (cxOf (L2.CX P w) P w K mg base N_law "law" (defScope s_law) f (.ref c) A outer s H E) (dayB.drop 9) t ∧ ∀ Γ Ψ, (∃ (d : Dt) (t : Tp), IsDice d ∧ t.G ∧ t.l.length ≤ 11 ∧ t.r.length ≤ 11 ∧ (∀ x ∈ t.word, x < 3) ∧ Γ = [.un, .ow d, .im (t.d C), .un, .un, .un, .un, .un, .un, .im (.tup (dI t.l)), .im (.int t.h), .im (.tup (dI t.r)), .un, .un, .un, .un, .un, .un, .un, .un, .un, .un, .un]) → (∀ Γ', (∃ (d : Dt) (t : Tp), IsDice d ∧ t.G ∧ t.l.length ≤ 11 ∧ t.r.length ≤ 11 ∧ (∀ x ∈ t.word, x < 3) ∧ Γ' = [.un, .ow d, .im (t.d C), .un, .un, .un, .un, .un, .un, .im (.tup (dI t.l)), .im (.int t.h), .im (.tup (dI t.r)), .un, .un, .un, .un, .un, .un, .un, .un, .un, .un, .un]) → Ws ⟨K, Tb, [], E, fun _ => False, True⟩ tr Γ' Ψ) → Ws ⟨K, Tb, [], E, fun _ => False, True⟩ t Γ Ψ := by
  have tE : Takes (cxOf (L2.CX P w) P w K mg base N_law "law" (defScope s_law) f (.ref c) A outer s H E) (fun cls d _ H => E cls d H) := takes_of rfl rfl rfl rfl
  have pE : Passes (L2.CX P w) (cxOf (L2.CX P w) P w K mg base N_law "law" (defScope s_law) f (.ref c) A outer s H E) E := passes_call tE fun _ _ _ _ h => h
  refine ⟨_, (pss_cons (ps_set (i := 13) sc_law.nd rfl (by first | exact Or.inl rfl | exact Or.inr rfl) (pe_fn 0 Fd_told_tape (by first | decide | simp) (hr.mono (by decide)) (by rfl) pE (pa_cons (pv 2) pa_nil)))
      (pss_cons (ps_if (PW.pt (pw_or (pt_cmpR (op_neK K rfl hr.units) (pe_md0 Md_Tape_shown (pe_fn 0 Fd_read_tape (by first | decide | simp) (hr.mono (by decide)) (by rfl) pE (pa_cons (pv 13) pa_nil)) (hr.mono (by decide)) pE) (pe_md0 Md_Tape_shown (pv 2) (hr.mono (by decide)) pE) (nomark _)) (pw_or (pt_cmpR (op_neK K rfl hr.units) (pe_md0 Md_Tape_shown (pe_fn 0 Fd_read_tape (by first | decide | simp) (hr.mono (by decide)) (by rfl) pE (pa_cons (pe_op (op_addK K rfl) (pe_op (op_addK K rfl) pe_str (pv 13)) pe_str) pa_nil)) (hr.mono (by decide)) pE) (pe_md0 Md_Tape_shown (pv 2) (hr.mono (by decide)) pE) (nomark _)) (pw_or1 (pt_cmpR (op_neK K rfl hr.units) (pv 13) (pe_op (op_addK K rfl) (pe_op (op_addK K rfl) (pe_op (op_addK K rfl) (pe_op (op_addK K rfl) (pe_m1 PySem.F.slot_str_join PySem.F.type_str_join (mt_joinK K rfl) pe_str (pe_lc (own := [("sign", 7)]) rfl sc_law.nd (pi_or (pi_tupK K rfl (pe_revK K rfl (pv 9))) (pi_listK K rfl (pe_revK K rfl (pv 9)))) (blkOk_by (N := N_law) (sc := defScope s_law) (by decide +kernel)) (fun _ _ _ _ _ => (pg_name (i := 7) sc_law.nd rfl (by first | exact Or.inl rfl | exact Or.inr rfl))) (fun _ _ _ _ _ => pts_nil) (fun _ _ _ _ _ => (pe_callTy call_strX (by rfl) T.str (by decide +kernel) (pa_cons (pv 7) pa_nil))))) pe_str) (pe_callTy call_strX (by rfl) T.str (by decide +kernel) (pa_cons (pv 10) pa_nil))) pe_str) (pe_m1 PySem.F.slot_str_join PySem.F.type_str_join (mt_joinK K rfl) pe_str (pe_lc (own := [("sign", 7)]) rfl sc_law.nd (pi_or (pi_tupK K rfl (pv 11)) (pi_listK K rfl (pv 11))) (blkOk_by (N := N_law) (sc := defScope s_law) (by decide +kernel)) (fun _ _ _ _ _ => (pg_name (i := 7) sc_law.nd rfl (by first | exact Or.inl rfl | exact Or.inr rfl))) (fun _ _ _ _ _ => pts_nil) (fun _ _ _ _ _ => (pe_callTy call_strX (by rfl) T.str (by decide +kernel) (pa_cons (pv 7) pa_nil)))))) (nomark _)))))) (pss_one (ps_ret pe_bl)) pss_nil)
      h)), ?_⟩
  try simp only [cxOf_K]
  clear hr tE pE h

  rintro Γ Ψ ⟨d, t, id, gd, l1, l2, w3, rfl⟩ fin
  have sm := sm_of gd w3
  have ok : t.ok := ⟨by omega, by omega⟩
  have tlen := text_len sm
  have z1 : (Str.ofString "0").length = 1 := rfl
  have z2 : (Str.ofString "00").length = 2 := rfl
  walk_at "fl"
  refine ⟨t, rfl, ok, gd, fun _ => ?_, fun h => (h fun x hx => by have := w3 x hx; omega).elim⟩
  walk_at "fl"
  refine ⟨t.text, rfl, by omega, fun l c r h => ?_, fun h => (h _ _ _ (rt_text sm)).elim⟩
  rw [read_text gd sm h]
  walk_at "fl"
  refine ⟨t, rfl, ?_⟩
  walk_at "fl"
  refine ⟨t, rfl, ?_⟩
  refine rd_shown ⟨_, rfl, nF rfl ?_⟩
  walk_at "fl"
  refine rd_addS (small (by omega)) ?_
  walk_at "fl"
  refine rd_addS (small (by rw [len_app]; omega)) ?_
  walk_at "fl"
  refine ⟨_, rfl, by rw [len_app, len_app]; omega, fun l c r h => ?_, fun h => (h _ _ _ (rt_text2 sm)).elim⟩
  rw [read_text2 gd sm h]
  walk_at "fl"
  refine ⟨t, rfl, ?_⟩
  walk_at "fl"
  refine ⟨t, rfl, ?_⟩
  refine rd_shown ⟨_, rfl, nF rfl ?_⟩
  walk_at "fl"
  have sl : ∀ x ∈ t.l.reverse, 0 ≤ x ∧ x ≤ 9 := fun x hx => sm.l x (List.mem_reverse.mp hx)
  have f1 : (figs t.l.reverse).length = t.l.length := by
    unfold figs
    rw [len_join rfl, figs_sum _ sl, List.length_reverse]
  have f2 : (figs t.r).length = t.r.length := by
    unfold figs
    rw [len_join rfl, figs_sum _ sm.r]
  have f3 := fig_len sm.h.1 sm.h.2
  have e1 : (Str.ofString "[").length = 1 := rfl
  have e2 : (Str.ofString "]").length = 1 := rfl
  have e0 : (Str.ofString "").length = 0 := rfl
  refine w_lcM rfl (tgt_name (by simp)) dStr (ix_l (i_tup ?_))
  walk_at "fl"
  rw [dI_rev]
  refine ⟨small (by rw [dI_len, List.length_reverse]; omega), fun i x ed => ?_, _, congrArg Dt.lst (dStr_map _), ?_, ?_⟩
  · obtain ⟨x, ex, rfl⟩ := dI_at ed
    have hx := sl x (List.mem_of_getElem? ex)
    walk_at "nl"
    refine rc_strI (log_small hx.1 (by omega)) ?_
    walk_at "nl"
    rfl
  · rw [figs_sum _ sl, e0, Nat.mul_zero, List.length_reverse]
    omega
  rw [show Txt.join (Str.ofString "") (List.map (fun i => Str.ofString (toString i)) t.l.reverse) = figs t.l.reverse from rfl]
  walk_at "fl"
  refine rd_addS (small (by omega)) ?_
  walk_at "fl"
  refine rc_strI (log_small sm.h.1 (by have := sm.h.2; omega)) ?_
  refine rd_addS (small (by rw [len_app]; omega)) ?_
  walk_at "fl"
  refine rd_addS (small (by rw [len_app, len_app]; omega)) ?_
  walk_at "fl"
  refine w_lcM rfl (tgt_name (by simp)) dStr (ix_l (i_tup ?_))
  walk_at "fl"
  refine ⟨small (by rw [dI_len]; omega), fun i x ed => ?_, _, congrArg Dt.lst (dStr_map _), ?_, ?_⟩
  · obtain ⟨x, ex, rfl⟩ := dI_at ed
    have hx := sm.r x (List.mem_of_getElem? ex)
    walk_at "nl"
    refine rc_strI (log_small hx.1 (by omega)) ?_
    walk_at "nl"
    rfl
  · rw [figs_sum _ sm.r, e0, Nat.mul_zero]
    omega
  rw [show Txt.join (Str.ofString "") (List.map (fun i => Str.ofString (toString i)) t.r) = figs t.r from rfl]
  refine rd_addS (small (by rw [len_app, len_app, len_app]; omega)) ?_
  walk_at "fl"
  refine nF rfl ?_
  walk_at "fl"
  exact s_wipe [7, 13] rfl (fin _ ⟨d, t, id, gd, l1, l2, w3, rfl⟩)

end
end TW
namespace TW
open PySem L2 Evl DL
local macro_rules | `(tactic| walk_at "d1") => `(tactic| with_reducible first
  | refine s_seq ?_
  | refine iteT ?_
  | refine iteF ?_
  | refine s_asg ?_
  | refine g_nm rfl rfl ?_
  | refine s_if ?_
  | refine s_ret ?_
  | refine s_next ?_
  | refine s_retN ?_
  | refine s_drop ?_
  | refine s_brk ?_
  | refine s_cont ?_
  | refine s_aug1 rfl rfl ?_
  | refine s_fldO ?_
  | refine Exists.intro _ (Exists.intro _ (Exists.intro _ (And.intro rfl (And.intro (by assumption) (And.intro (by assumption) (And.intro (by decide) ?_))))))
  | refine w_var rfl ?_
  | refine w_int ?_
  | refine w_str ?_
  | refine w_bl ?_
  | refine w_non ?_
  | refine t_cmp ?_
  | refine rd_ixO rfl rfl ?_
  | refine w_op ?_
  | refine w_un ?_
  | refine w_chain ?_
  | refine t_test ?_
  | refine t_B ?_
  | refine t_not ?_
  | refine t_and ?_
  | refine t_or ?_
  | refine w_andV ?_
  | refine w_orV ?_
  | refine w_notV ?_
  | refine w_if ?_
  | refine w_tup ?_
  | refine w_lst ?_
  | refine w_isiInt ?_
  | refine w_rev ?_
  | refine w_cb ?_
  | refine w_sl ?_
  | refine w_join ?_
  | refine t_yes ?_
  | refine w_m1 ?_
  | refine rj_find ?_
  | refine rj_count ?_
  | refine w_joined ?_
  | refine a_nil ?_
  | refine a_cons ?_
  | refine o_none ?_
  | refine o_some ?_
  | refine g_tup rfl ?_
  | refine g_setO rfl rfl ?_
  | refine gs_nil ?_
  | refine gs_cons ?_
  | refine j_nil ?_
  | refine j_cons ?_
  | refine rd_lt ?_
  | refine rd_le ?_
  | refine rd_gt ?_
  | refine rd_ge ?_
  | refine rd_sub ?_
  | refine rd_mod (by first | decide | assumption) ?_
  | refine rd_div (by first | decide | (constructor <;> omega)) ?_
  | refine rd_mulR (by decide) ?_
  | refine rd_powC (by decide) ?_
  | refine rd_addI ?_
  | refine rd_eqI ?_
  | refine rd_neI ?_
  | refine rd_eqS ?_
  | refine rd_neS ?_
  | refine rd_eqB ?_
  | refine rd_neB ?_
  | refine rd_ipa ?_
  | refine rd_ips ?_
  | refine ru_neg ?_
  | refine rx_lenT ?_
  | refine rx_lenL ?_
  | refine rx_abs ?_
  | refine rc_intI ?_
  | refine rc_intB ?_
  | refine rc_tupT ?_
  | refine rc_tupL ?_
  | refine rc_tupR ?_
  | refine rs_tup ?_
  | refine rs_lst ?_
  | refine w_fldO rfl (by assumption) (by assumption) rfl ?_
  | refine w_fldV rfl (by assumption) (by assumption) rfl ?_
  | refine w_fld ?_
  | refine Exists.intro _ (And.intro rfl ?_)
  | refine Exists.intro _ (Exists.intro _ (Exists.intro _ (Exists.intro _ (And.intro rfl (And.intro (by assumption) (And.intro (by assumption) (And.intro (by rfl) ?_)))))))
  | refine w_callI (dds := []) (fun _ => .nil) (Exists.intro _ rfl) ?_
  | refine w_callI0 (dds := []) (fun _ => .nil) (Exists.intro _ rfl) ?_
  | refine w_call (dds := []) (fun _ => .nil) ?_
  | refine w_call0 (dds := []) (fun _ => .nil) ?_
  | refine w_make (dds := []) (fun _ => .nil) ?_
  | refine w_make0 (dds := []) (fun _ => .nil) ?_
  | refine w_meth (dds := []) (fun _ => .nil) ?_
  | refine w_meth0 (dds := []) (fun _ => .nil) ?_
  | refine And.intro (small (by simp only [List.length_cons, List.length_nil]; omega)) ?_
  | refine Exists.intro _ (Exists.intro _ (And.intro rfl (And.intro (by decide) ?_)))
  | refine Or.inl (Exists.intro _ (And.intro rfl ?_))
  | refine Or.inr (Exists.intro _ (And.intro rfl ?_))
  | refine And.intro rfl ?_)
local macro_rules | `(tactic| walk_at "dl") => `(tactic| repeat (first | walk_at "d1" | (dsimp only [onx, rets, lpe, rets1, List.cons_append, List.nil_append])))

local macro_rules | `(tactic| walk_at "n1") => `(tactic| with_reducible first
  | refine s_seq ?_
  | refine iteT ?_
  | refine iteF ?_
  | refine s_asg ?_
  | refine g_nm rfl rfl ?_
  | refine s_ret ?_
  | refine s_next ?_
  | refine s_retN ?_
  | refine s_drop ?_
  | refine s_brk ?_
  | refine s_cont ?_
  | refine s_aug1 rfl rfl ?_
  | refine s_fldO ?_
  | refine Exists.intro _ (Exists.intro _ (Exists.intro _ (And.intro rfl (And.intro (by assumption) (And.intro (by assumption) (And.intro (by decide) ?_))))))
  | refine w_var rfl ?_
  | refine w_int ?_
  | refine w_str ?_
  | refine w_bl ?_
  | refine w_non ?_
  | refine t_cmp ?_
  | refine rd_ixO rfl rfl ?_
  | refine w_op ?_
  | refine w_un ?_
  | refine w_chain ?_
  | refine t_test ?_
  | refine t_B ?_
  | refine t_not ?_
  | refine t_and ?_
  | refine t_or ?_
  | refine w_andV ?_
  | refine w_orV ?_
  | refine w_notV ?_
  | refine w_tup ?_
  | refine w_lst ?_
  | refine w_isiInt ?_
  | refine w_rev ?_
  | refine w_cb ?_
  | refine w_sl ?_
  | refine w_join ?_
  | refine t_yes ?_
  | refine w_m1 ?_
  | refine rj_find ?_
  | refine rj_count ?_
  | refine w_joined ?_
  | refine a_nil ?_
  | refine a_cons ?_
  | refine o_none ?_
  | refine o_some ?_
  | refine g_tup rfl ?_
  | refine g_setO rfl rfl ?_
  | refine gs_nil ?_
  | refine gs_cons ?_
  | refine j_nil ?_
  | refine j_cons ?_
  | refine rd_lt ?_
  | refine rd_le ?_
  | refine rd_gt ?_
  | refine rd_ge ?_
  | refine rd_sub ?_
  | refine rd_mod (by first | decide | assumption) ?_
  | refine rd_div (by first | decide | (constructor <;> omega)) ?_
  | refine rd_mulR (by decide) ?_
  | refine rd_powC (by decide) ?_
  | refine rd_addI ?_
  | refine rd_eqI ?_
  | refine rd_neI ?_
  | refine rd_eqS ?_
  | refine rd_neS ?_
  | refine rd_eqB ?_
  | refine rd_neB ?_
  | refine rd_ipa ?_
  | refine rd_ips ?_
  | refine ru_neg ?_
  | refine rx_lenT ?_
  | refine rx_lenL ?_
  | refine rx_abs ?_
  | refine rc_intI ?_
  | refine rc_intB ?_
  | refine rc_tupT ?_
  | refine rc_tupL ?_
  | refine rc_tupR ?_
  | refine rs_tup ?_
  | refine rs_lst ?_
  | refine w_fldO rfl (by assumption) (by assumption) rfl ?_
  | refine w_fldV rfl (by assumption) (by assumption) rfl ?_
  | refine w_fld ?_
  | refine Exists.intro _ (And.intro rfl ?_)
  | refine Exists.intro _ (Exists.intro _ (Exists.intro _ (Exists.intro _ (And.intro rfl (And.intro (by assumption) (And.intro (by assumption) (And.intro (by rfl) ?_)))))))
  | refine w_callI (dds := []) (fun _ => .nil) (Exists.intro _ rfl) ?_
  | refine w_callI0 (dds := []) (fun _ => .nil) (Exists.intro _ rfl) ?_
  | refine w_call (dds := []) (fun _ => .nil) ?_
  | refine w_call0 (dds := []) (fun _ => .nil) ?_
  | refine w_make (dds := []) (fun _ => .nil) ?_
  | refine w_make0 (dds := []) (fun _ => .nil) ?_
  | refine w_meth (dds := []) (fun _ => .nil) ?_
  | refine w_meth0 (dds := []) (fun _ => .nil) ?_
  | refine And.intro (small (by simp only [List.length_cons, List.length_nil]; omega)) ?_
  | refine Exists.intro _ (Exists.intro _ (And.intro rfl (And.intro (by decide) ?_)))
  | refine Or.inl (Exists.intro _ (And.intro rfl ?_))
  | refine Or.inr (Exists.intro _ (And.intro rfl ?_))
  | refine And.intro rfl ?_)
local macro_rules | `(tactic| walk_at "nl") => `(tactic| repeat (first | walk_at "n1" | (dsimp only [onx, rets, lpe, rets1, List.cons_append, List.nil_append])))

local macro_rules | `(tactic| walk_at "f1") => `(tactic| with_reducible first
  | refine s_seq ?_
  | refine iteT ?_
  | refine iteF ?_
  | refine s_asg ?_
  | refine g_nm rfl rfl ?_
  | refine s_ifF ?_
  | refine s_ret ?_
  | refine s_next ?_
  | refine s_retN ?_
  | refine s_drop ?_
  | refine s_brk ?_
  | refine s_cont ?_
  | refine s_aug1 rfl rfl ?_
  | refine s_fldO ?_
  | refine Exists.intro _ (Exists.intro _ (Exists.intro _ (And.intro rfl (And.intro (by assumption) (And.intro (by assumption) (And.intro (by decide) ?_))))))
  | refine w_var rfl ?_
  | refine w_int ?_
  | refine w_str ?_
  | refine w_bl ?_
  | refine w_non ?_
  | refine t_cmp ?_
  | refine rd_ixO rfl rfl ?_
  | refine w_op ?_
  | refine w_un ?_
  | refine w_chain ?_
  | refine t_test ?_
  | refine t_B ?_
  | refine t_not ?_
  | refine t_and ?_
  | refine t_orF ?_
  | refine w_andV ?_
  | refine w_orV ?_
  | refine w_notV ?_
  | refine w_tup ?_
  | refine w_lst ?_
  | refine w_isiInt ?_
  | refine w_rev ?_
  | refine w_cb ?_
  | refine w_sl ?_
  | refine w_join ?_
  | refine t_yes ?_
  | refine w_m1 ?_
  | refine rj_find ?_
  | refine rj_count ?_
  | refine w_joined ?_
  | refine a_nil ?_
  | refine a_cons ?_
  | refine o_none ?_
  | refine o_some ?_
  | refine g_tup rfl ?_
  | refine g_setO rfl rfl ?_
  | refine gs_nil ?_
  | refine gs_cons ?_
  | refine j_nil ?_
  | refine j_cons ?_
  | refine rd_lt ?_
  | refine rd_le ?_
  | refine rd_gt ?_
  | refine rd_ge ?_
  | refine rd_sub ?_
  | refine rd_mod (by first | decide | assumption) ?_
  | refine rd_div (by first | decide | (constructor <;> omega)) ?_
  | refine rd_mulR (by decide) ?_
  | refine rd_powC (by decide) ?_
  | refine rd_addI ?_
  | refine rd_eqI ?_
  | refine rd_neI ?_
  | refine rd_eqS ?_
  | refine rd_neS ?_
  | refine rd_eqB ?_
  | refine rd_neB ?_
  | refine rd_ipa ?_
  | refine rd_ips ?_
  | refine ru_neg ?_
  | refine rx_lenT ?_
  | refine rx_lenL ?_
  | refine rx_abs ?_
  | refine rc_intI ?_
  | refine rc_intB ?_
  | refine rc_tupT ?_
  | refine rc_tupL ?_
  | refine rc_tupR ?_
  | refine rs_tup ?_
  | refine rs_lst ?_
  | refine w_fldO rfl (by assumption) (by assumption) rfl ?_
  | refine w_fldV rfl (by assumption) (by assumption) rfl ?_
  | refine w_fld ?_
  | refine Exists.intro _ (And.intro rfl ?_)
  | refine Exists.intro _ (Exists.intro _ (Exists.intro _ (Exists.intro _ (And.intro rfl (And.intro (by assumption) (And.intro (by assumption) (And.intro (by rfl) ?_)))))))
  | refine w_callI (dds := []) (fun _ => .nil) (Exists.intro _ rfl) ?_
  | refine w_callI0 (dds := []) (fun _ => .nil) (Exists.intro _ rfl) ?_
  | refine w_call (dds := []) (fun _ => .nil) ?_
  | refine w_call0 (dds := []) (fun _ => .nil) ?_
  | refine w_make (dds := []) (fun _ => .nil) ?_
  | refine w_make0 (dds := []) (fun _ => .nil) ?_
  | refine w_meth (dds := []) (fun _ => .nil) ?_
  | refine w_meth0 (dds := []) (fun _ => .nil) ?_
  | refine And.intro (small (by simp only [List.length_cons, List.length_nil]; omega)) ?_
  | refine Exists.intro _ (Exists.intro _ (And.intro rfl (And.intro (by decide) ?_)))
  | refine Or.inl (Exists.intro _ (And.intro rfl ?_))
  | refine Or.inr (Exists.intro _ (And.intro rfl ?_))
  | refine And.intro rfl ?_)
local macro_rules | `(tactic| walk_at "fl") => `(tactic| repeat (first | walk_at "f1" | (dsimp only [onx, rets, lpe, rets1, List.cons_append, List.nil_append])))

section
variable {P : Program} {w : World} {K : PySem.W.Frag} {Tb : TbT} {mg : Str → Option Value} {base : Heap}
theorem seg_6 {f c : Addr} {C X : Addr} (T : Tx K mg) (Fd_turned_tape : Fd P w K mg base "turned_tape" P_turned_tape [] 4 (spD K Tb (pm_turned_tape C))) (Md_Tape_shown : Md P w K mg base C "shown" P_Tape_shown [] 1 (spD K Tb (pm_shown C))) {A : Around} {outer : List Env} {s : Shared} {H : Hp} {E : XK} (hr : Room 6 (A.deeper (PyProof.Rows.envOfC "law" (defScope s_law) s.heap.objs.size f (.ref c)))) {tr : TS} (h : PSs (cxOf (L2.CX P w) P w K mg base N_law "law" (defScope s_law) f (.ref c) A outer s H E) (dayB.drop 13) tr) :
    ∃ t, PSs (cxOf (L2.CX P w) P w K mg base N_law "law" (defScope s_law) f (.ref c) A outer s H E) (dayB.drop 11) t ∧ ∀ Γ Ψ, (∃ (d : Dt) (t : Tp), IsDice d ∧ t.G ∧ t.l.length ≤ 11 ∧ t.r.length ≤ 11 ∧ (∀ x ∈ t.word, x < 3) ∧ Γ = [.un, .ow d, .im (t.d C), .un, .un, .un, .un, .un, .un, .im (.tup (dI t.l)), .im (.int t.h), .im (.tup (dI t.r)), .un, .un, .un, .un, .un, .un, .un, .un, .un, .un, .un]) → (∀ Γ', (∃ (d : Dt), IsDice d ∧ Γ' = [.un, .ow d, .un, .un, .un, .un, .un, .un, .un, .un, .un, .un, .un, .un, .un, .un, .un, .un, .un, .un, .un, .un, .un]) → Ws ⟨K, Tb, [], E, fun _ => False, True⟩ tr Γ' Ψ) → Ws ⟨K, Tb, [], E, fun _ => False, True⟩ t Γ Ψ := by
  have tE : Takes (cxOf (L2.CX P w) P w K mg base N_law "law" (defScope s_law) f (.ref c) A outer s H E) (fun cls d _ H => E cls d H) := takes_of rfl rfl rfl rfl
  have pE : Passes (L2.CX P w) (cxOf (L2.CX P w) P w K mg base N_law "law" (defScope s_law) f (.ref c) A outer s H E) E := passes_call tE fun _ _ _ _ h => h
  refine ⟨_, (pss_cons (ps_set (i := 14) sc_law.nd rfl (by first | exact Or.inl rfl | exact Or.inr rfl) (pe_fn 0 Fd_turned_tape (by first | decide | simp) (hr.mono (by decide)) (by rfl) pE (pa_cons (pv 2) pa_nil)))
      (pss_cons (ps_if (PW.pt (pw_or (pt_cmpR (op_neK K rfl hr.units) (pe_md0 Md_Tape_shown (pv 14) (hr.mono (by decide)) pE) (pe_tup (pa_cons (pv 11) (pa_cons (pv 10) (pa_cons (pv 9) pa_nil)))) (nomark _)) (pw_or1 (pt_cmpR (op_neK K rfl hr.units) (pe_md0 Md_Tape_shown (pe_fn 0 Fd_turned_tape (by first | decide | simp) (hr.mono (by decide)) (by rfl) pE (pa_cons (pv 14) pa_nil)) (hr.mono (by decide)) pE) (pe_md0 Md_Tape_shown (pv 2) (hr.mono (by decide)) pE) (nomark _))))) (pss_one (ps_ret pe_bl)) pss_nil)
      h)), ?_⟩
  try simp only [cxOf_K]
  clear hr tE pE h

  rintro Γ Ψ ⟨d, t, id, gd, l1, l2, w3, rfl⟩ fin
  have ok : t.ok := ⟨by omega, by omega⟩
  have ok2 : t.turn.ok := ⟨by show t.r.length ≤ 5000; omega, by show t.l.length ≤ 5000; omega⟩
  walk_at "fl"
  refine ⟨t, rfl, ok, gd, ?_⟩
  walk_at "fl"
  refine ⟨t.turn, rfl, ?_⟩
  walk_at "fl"
  refine rd_shown ⟨_, rfl, nF rfl ?_⟩
  walk_at "fl"
  refine ⟨t.turn, rfl, ok2, gd.turn, ?_⟩
  walk_at "fl"
  refine ⟨t.turn.turn, rfl, ?_⟩
  walk_at "fl"
  refine ⟨t, rfl, ?_⟩
  refine rd_shown ⟨_, rfl, nF rfl ?_⟩
  walk_at "fl"
  exact s_wipe [2, 9, 10, 11, 14] rfl (fin _ ⟨d, id, rfl⟩)

end
end TW
namespace TW
open PySem L2 Evl DL
local macro_rules | `(tactic| walk_at "d1") => `(tactic| with_reducible first
  | refine s_seq ?_
  | refine iteT ?_
  | refine iteF ?_
  | refine s_asg ?_
  | refine g_nm rfl rfl ?_
  | refine s_if ?_
  | refine s_ret ?_
  | refine s_next ?_
  | refine s_retN ?_
  | refine s_drop ?_
  | refine s_brk ?_
  | refine s_cont ?_
  | refine s_aug1 rfl rfl ?_
  | refine s_fldO ?_
  | refine Exists.intro _ (Exists.intro _ (Exists.intro _ (And.intro rfl (And.intro (by assumption) (And.intro (by assumption) (And.intro (by decide) ?_))))))
  | refine w_var rfl ?_
  | refine w_int ?_
  | refine w_str ?_
  | refine w_bl ?_
  | refine w_non ?_
  | refine t_cmp ?_
  | refine rd_ixO rfl rfl ?_
  | refine w_op ?_
  | refine w_un ?_
  | refine w_chain ?_
  | refine t_test ?_
  | refine t_B ?_
  | refine t_not ?_
  | refine t_and ?_
  | refine t_or ?_
  | refine w_andV ?_
  | refine w_orV ?_
  | refine w_notV ?_
  | refine w_if ?_
  | refine w_tup ?_
  | refine w_lst ?_
  | refine w_isiInt ?_
  | refine w_rev ?_
  | refine w_cb ?_
  | refine w_sl ?_
  | refine w_join ?_
  | refine t_yes ?_
  | refine w_m1 ?_
  | refine rj_find ?_
  | refine rj_count ?_
  | refine w_joined ?_
  | refine a_nil ?_
  | refine a_cons ?_
  | refine o_none ?_
  | refine o_some ?_
  | refine g_tup rfl ?_
  | refine g_setO rfl rfl ?_
  | refine gs_nil ?_
  | refine gs_cons ?_
  | refine j_nil ?_
  | refine j_cons ?_
  | refine rd_lt ?_
  | refine rd_le ?_
  | refine rd_gt ?_
  | refine rd_ge ?_
  | refine rd_sub ?_
  | refine rd_mod (by first | decide | assumption) ?_
  | refine rd_div (by first | decide | (constructor <;> omega)) ?_
  | refine rd_mulR (by decide) ?_
  | refine rd_powC (by decide) ?_
  | refine rd_addI ?_
  | refine rd_eqI ?_
  | refine rd_neI ?_
  | refine rd_eqS ?_
  | refine rd_neS ?_
  | refine rd_eqB ?_
  | refine rd_neB ?_
  | refine rd_ipa ?_
  | refine rd_ips ?_
  | refine ru_neg ?_
  | refine rx_lenT ?_
  | refine rx_lenL ?_
  | refine rx_abs ?_
  | refine rc_intI ?_
  | refine rc_intB ?_
  | refine rc_tupT ?_
  | refine rc_tupL ?_
  | refine rc_tupR ?_
  | refine rs_tup ?_
  | refine rs_lst ?_
  | refine w_fldO rfl (by assumption) (by assumption) rfl ?_
  | refine w_fldV rfl (by assumption) (by assumption) rfl ?_
  | refine w_fld ?_
  | refine Exists.intro _ (And.intro rfl ?_)
  | refine Exists.intro _ (Exists.intro _ (Exists.intro _ (Exists.intro _ (And.intro rfl (And.intro (by assumption) (And.intro (by assumption) (And.intro (by rfl) ?_)))))))
  | refine w_callI (dds := []) (fun _ => .nil) (Exists.intro _ rfl) ?_
  | refine w_callI0 (dds := []) (fun _ => .nil) (Exists.intro _ rfl) ?_
  | refine w_call (dds := []) (fun _ => .nil) ?_
  | refine w_call0 (dds := []) (fun _ => .nil) ?_
  | refine w_make (dds := []) (fun _ => .nil) ?_
  | refine w_make0 (dds := []) (fun _ => .nil) ?_
  | refine w_meth (dds := []) (fun _ => .nil) ?_
  | refine w_meth0 (dds := []) (fun _ => .nil) ?_
  | refine And.intro (small (by simp only [List.length_cons, List.length_nil]; omega)) ?_
  | refine Exists.intro _ (Exists.intro _ (And.intro rfl (And.intro (by decide) ?_)))
  | refine Or.inl (Exists.intro _ (And.intro rfl ?_))
  | refine Or.inr (Exists.intro _ (And.intro rfl ?_))
  | refine And.intro rfl ?_)
local macro_rules | `(tactic| walk_at "dl") => `(tactic| repeat (first | walk_at "d1" | (dsimp only [onx, rets, lpe, rets1, List.cons_append, List.nil_append])))

local macro_rules | `(tactic| walk_at "n1") => `(tactic| with_reducible first
  | refine s_seq ?_
  | refine iteT ?_
  | refine iteF ?_
  | refine s_asg ?_
  | refine g_nm rfl rfl ?_
  | refine s_ret ?_
  | refine s_next ?_
  | refine s_retN ?_
  | refine s_drop ?_
  | refine s_brk ?_
  | refine s_cont ?_
  | refine s_aug1 rfl rfl ?_
  | refine s_fldO ?_
  | refine Exists.intro _ (Exists.intro _ (Exists.intro _ (And.intro rfl (And.intro (by assumption) (And.intro (by assumption) (And.intro (by decide) ?_))))))
  | refine w_var rfl ?_
  | refine w_int ?_
  | refine w_str ?_
  | refine w_bl ?_
  | refine w_non ?_
  | refine t_cmp ?_
  | refine rd_ixO rfl rfl ?_
  | refine w_op ?_
  | refine w_un ?_
  | refine w_chain ?_
  | refine t_test ?_
  | refine t_B ?_
  | refine t_not ?_
  | refine t_and ?_
  | refine t_or ?_
  | refine w_andV ?_
  | refine w_orV ?_
  | refine w_notV ?_
  | refine w_tup ?_
  | refine w_lst ?_
  | refine w_isiInt ?_
  | refine w_rev ?_
  | refine w_cb ?_
  | refine w_sl ?_
  | refine w_join ?_
  | refine t_yes ?_
  | refine w_m1 ?_
  | refine rj_find ?_
  | refine rj_count ?_
  | refine w_joined ?_
  | refine a_nil ?_
  | refine a_cons ?_
  | refine o_none ?_
  | refine o_some ?_
  | refine g_tup rfl ?_
  | refine g_setO rfl rfl ?_
  | refine gs_nil ?_
  | refine gs_cons ?_
  | refine j_nil ?_
  | refine j_cons ?_
  | refine rd_lt ?_
  | refine rd_le ?_
  | refine rd_gt ?_
  | refine rd_ge ?_
  | refine rd_sub ?_
  | refine rd_mod (by first | decide | assumption) ?_
  | refine rd_div (by first | decide | (constructor <;> omega)) ?_
  | refine rd_mulR (by decide) ?_
  | refine rd_powC (by decide) ?_
  | refine rd_addI ?_
  | refine rd_eqI ?_
  | refine rd_neI ?_
  | refine rd_eqS ?_
  | refine rd_neS ?_
  | refine rd_eqB ?_
  | refine rd_neB ?_
  | refine rd_ipa ?_
  | refine rd_ips ?_
  | refine ru_neg ?_
  | refine rx_lenT ?_
  | refine rx_lenL ?_
  | refine rx_abs ?_
  | refine rc_intI ?_
  | refine rc_intB ?_
  | refine rc_tupT ?_
  | refine rc_tupL ?_
  | refine rc_tupR ?_
  | refine rs_tup ?_
  | refine rs_lst ?_
  | refine w_fldO rfl (by assumption) (by assumption) rfl ?_
  | refine w_fldV rfl (by assumption) (by assumption) rfl ?_
  | refine w_fld ?_
  | refine Exists.intro _ (And.intro rfl ?_)
  | refine Exists.intro _ (Exists.intro _ (Exists.intro _ (Exists.intro _ (And.intro rfl (And.intro (by assumption) (And.intro (by assumption) (And.intro (by rfl) ?_)))))))
  | refine w_callI (dds := []) (fun _ => .nil) (Exists.intro _ rfl) ?_
  | refine w_callI0 (dds := []) (fun _ => .nil) (Exists.intro _ rfl) ?_
  | refine w_call (dds := []) (fun _ => .nil) ?_
  | refine w_call0 (dds := []) (fun _ => .nil) ?_
  | refine w_make (dds := []) (fun _ => .nil) ?_
  | refine w_make0 (dds := []) (fun _ => .nil) ?_
  | refine w_meth (dds := []) (fun _ => .nil) ?_
  | refine w_meth0 (dds := []) (fun _ => .nil) ?_
  | refine And.intro (small (by simp only [List.length_cons, List.length_nil]; omega)) ?_
  | refine Exists.intro _ (Exists.intro _ (And.intro rfl (And.intro (by decide) ?_)))
  | refine Or.inl (Exists.intro _ (And.intro rfl ?_))
  | refine Or.inr (Exists.intro _ (And.intro rfl ?_))
  | refine And.intro rfl ?_)
local macro_rules | `(tactic| walk_at "nl") => `(tactic| repeat (first | walk_at "n1" | (dsimp only [onx, rets, lpe, rets1, List.cons_append, List.nil_append])))

local macro_rules | `(tactic| walk_at "f1") => `(tactic| with_reducible first
  | refine s_seq ?_
  | refine iteT ?_
  | refine iteF ?_
  | refine s_asg ?_
  | refine g_nm rfl rfl ?_
  | refine s_ifF ?_
  | refine s_ret ?_
  | refine s_next ?_
  | refine s_retN ?_
  | refine s_drop ?_
  | refine s_brk ?_
  | refine s_cont ?_
  | refine s_aug1 rfl rfl ?_
  | refine s_fldO ?_
  | refine Exists.intro _ (Exists.intro _ (Exists.intro _ (And.intro rfl (And.intro (by assumption) (And.intro (by assumption) (And.intro (by decide) ?_))))))
  | refine w_var rfl ?_
  | refine w_int ?_
  | refine w_str ?_
  | refine w_bl ?_
  | refine w_non ?_
  | refine t_cmp ?_
  | refine rd_ixO rfl rfl ?_
  | refine w_op ?_
  | refine w_un ?_
  | refine w_chain ?_
  | refine t_test ?_
  | refine t_B ?_
  | refine t_not ?_
  | refine t_and ?_
  | refine t_orF ?_
  | refine w_andV ?_
  | refine w_orV ?_
  | refine w_notV ?_
  | refine w_tup ?_
  | refine w_lst ?_
  | refine w_isiInt ?_
  | refine w_rev ?_
  | refine w_cb ?_
  | refine w_sl ?_
  | refine w_join ?_
  | refine t_yes ?_
  | refine w_m1 ?_
  | refine rj_find ?_
  | refine rj_count ?_
  | refine w_joined ?_
  | refine a_nil ?_
  | refine a_cons ?_
  | refine o_none ?_
  | refine o_some ?_
  | refine g_tup rfl ?_
  | refine g_setO rfl rfl ?_
  | refine gs_nil ?_
  | refine gs_cons ?_
  | refine j_nil ?_
  | refine j_cons ?_
  | refine rd_lt ?_
  | refine rd_le ?_
  | refine rd_gt ?_
  | refine rd_ge ?_
  | refine rd_sub ?_
  | refine rd_mod (by first | decide | assumption) ?_
  | refine rd_div (by first | decide | (constructor <;> omega)) ?_
  | refine rd_mulR (by decide) ?_
  | refine rd_powC (by decide) ?_
  | refine rd_addI ?_
  | refine rd_eqI ?_
  | refine rd_neI ?_
  | refine rd_eqS ?_
  | refine rd_neS ?_
  | refine rd_eqB ?_
  | refine rd_neB ?_
  | refine rd_ipa ?_
  | refine rd_ips ?_
  | refine ru_neg ?_
  | refine rx_lenT ?_
  | refine rx_lenL ?_
  | refine rx_abs ?_
  | refine rc_intI ?_
  | refine rc_intB ?_
  | refine rc_tupT ?_
  | refine rc_tupL ?_
  | refine rc_tupR ?_
  | refine rs_tup ?_
  | refine rs_lst ?_
  | refine w_fldO rfl (by assumption) (by assumption) rfl ?_
  | refine w_fldV rfl (by assumption) (by assumption) rfl ?_
  | refine w_fld ?_
  | refine Exists.intro _ (And.intro rfl ?_)
  | refine Exists.intro _ (Exists.intro _ (Exists.intro _ (Exists.intro _ (And.intro rfl (And.intro (by assumption) (And.intro (by assumption) (And.intro (by rfl) ?_)))))))
  | refine w_callI (dds := []) (fun _ => .nil) (Exists.intro _ rfl) ?_
  | refine w_callI0 (dds := []) (fun _ => .nil) (Exists.intro _ rfl) ?_
  | refine w_call (dds := []) (fun _ => .nil) ?_
  | refine w_call0 (dds := []) (fun _ => .nil) ?_
  | refine w_make (dds := []) (fun _ => .nil) ?_
  | refine w_make0 (dds := []) (fun _ => .nil) ?_
  | refine w_meth (dds := []) (fun _ => .nil) ?_
  | refine w_meth0 (dds := []) (fun _ => .nil) ?_
  | refine And.intro (small (by simp only [List.length_cons, List.length_nil]; omega)) ?_
  | refine Exists.intro _ (Exists.intro _ (And.intro rfl (And.intro (by decide) ?_)))
  | refine Or.inl (Exists.intro _ (And.intro rfl ?_))
  | refine Or.inr (Exists.intro _ (And.intro rfl ?_))
  | refine And.intro rfl ?_)
local macro_rules | `(tactic| walk_at "fl") => `(tactic| repeat (first | walk_at "f1" | (dsimp only [onx, rets, lpe, rets1, List.cons_append, List.nil_append])))

/-- what becomes of a word and a place -/
def WP (ns : List Int) (sp : Int) : Prop := (ns = [] ∧ sp = 0) ∨ (0 ≤ sp ∧ sp < ns.length)
def wtape (ns : List Int) (sp : Int) : Tp := Tp.mk' (ns.take sp.toNat).reverse (ns.getD sp.toNat 0) (ns.drop (sp.toNat + 1))
def MadeOf (C : Addr) (ns : List Int) (sp : Int) (D : Dt) : Prop := (WP ns sp ∧ D = (wtape ns sp).d C) ∨ (¬ WP ns sp ∧ D = .str "tape")
section
variable {P : Program} {w : World} {K : PySem.W.Frag} {Tb : TbT} {mg : Str → Option Value} {base : Heap}
theorem seg_7 {f c : Addr} {C X Pt : Addr} {lc : List (Addr × Str)} (T : Tx K mg) (Fd_law_roll : Fd P w K mg base "_law_roll" P_law_roll [] 1 (spI K Tb pm_roll)) (Fd_of_word : Fd P w K mg base "of_word" P_of_word [.int 0] 4 (spD K Tb (pm_of_word C X))) (TB_law : GxR.TabB base mg c Pt) (hPt : (Pt, ("law" : Str) ++ ".<locals>." ++ "<lambda>") ∈ Tb.l) (hPl : ∀ x ∈ Tb.l, x.1 = Pt → x.2 = ("law" : Str) ++ ".<locals>." ++ "<lambda>") (hTg : Tb.g = []) (Tld_told : Tld K mg "_law_told" "what" [] s_law_told toldH0 (toldH.drop 1) lc) (tX : ∀ Q : Str → Prop, Q "tape" → toldBy K Q lc (.ref X)) {A : Around} {outer : List Env} {s : Shared} {H : Hp} {E : XK} (hr : Room 6 (A.deeper (PyProof.Rows.envOfC "law" (defScope s_law) s.heap.objs.size f (.ref c)))) {tr : TS} (h : PSs (cxOf (L2.CX P w) P w K mg base N_law "law" (defScope s_law) f (.ref c) A outer s H E) (dayB.drop 16) tr) :
    ∃ t, PSs (cxOf (L2.CX P w) P w K mg base N_law "law" (defScope s_law) f (.ref c) A outer s H E) (dayB.drop 13) t ∧ ∀ Γ Ψ, (∃ (d : Dt), IsDice d ∧ Γ = [.un, .ow d, .un, .un, .un, .un, .un, .un, .un, .un, .un, .un, .un, .un, .un, .un, .un, .un, .un, .un, .un, .un, .un]) → (∀ Γ', (∃ (d : Dt) (ns : List Int) (sp : Int) (D : Dt), IsDice d ∧ ns.length ≤ 4 ∧ (∀ x ∈ ns, 0 ≤ x ∧ x < 3) ∧ 0 ≤ sp ∧ sp < 6 ∧ MadeOf C ns sp D ∧ Γ' = [.un, .ow d, .un, .un, .un, .un, .un, .un, .un, .un, .un, .un, .un, .un, .un, .im (.lst (dI ns)), .im (.int sp), .im D, .un, .un, .un, .un, .un]) → Ws ⟨K, Tb, [], E, fun _ => False, True⟩ tr Γ' Ψ) → Ws ⟨K, Tb, [], E, fun _ => False, True⟩ t Γ Ψ := by
  have tE : Takes (cxOf (L2.CX P w) P w K mg base N_law "law" (defScope s_law) f (.ref c) A outer s H E) (fun cls d _ H => E cls d H) := takes_of rfl rfl rfl rfl
  have pE : Passes (L2.CX P w) (cxOf (L2.CX P w) P w K mg base N_law "law" (defScope s_law) f (.ref c) A outer s H E) E := passes_call tE fun _ _ _ _ h => h
  refine ⟨_, (pss_cons (ps_set (i := 15) sc_law.nd rfl (by first | exact Or.inl rfl | exact Or.inr rfl) (pe_lc (own := [("k", 5)]) rfl sc_law.nd (pi_range1 (by rfl) T.range (pa_cons (pe_fn 0 Fd_law_roll (by first | decide | simp) (hr.mono (by decide)) (by rfl) pE (pa_cons (pv 1) (pa_cons pe_int pa_nil))) pa_nil)) (blkOk_by (N := N_law) (sc := defScope s_law) (by decide +kernel)) (fun _ _ _ _ _ => (pg_name (i := 5) sc_law.nd rfl (by first | exact Or.inl rfl | exact Or.inr rfl))) (fun _ _ _ _ _ => pts_nil) (fun _ _ _ _ _ => (pe_fn 0 Fd_law_roll (by first | decide | simp) (hr.mono (by decide)) (by rfl) passL (pa_cons (pv 1) (pa_cons pe_int pa_nil))))))
      (pss_cons (ps_set (i := 16) sc_law.nd rfl (by first | exact Or.inl rfl | exact Or.inr rfl) (pe_fn 0 Fd_law_roll (by first | decide | simp) (hr.mono (by decide)) (by rfl) pE (pa_cons (pv 1) (pa_cons pe_int pa_nil))))
      (pss_cons (ps_set (i := 17) sc_law.nd rfl (by first | exact Or.inl rfl | exact Or.inr rfl) (pe_tld (k := 4) K rfl (("law" : Str) ++ ".<locals>.") _ rfl rfl Tld_told (by rfl) TB_law rfl hPt hPl (hr.mono (by decide)) (LamX.lamS_by (sc := defScope s_law) (by decide +kernel)) rfl (fun _ _ _ _ _ => rfl) (fun _ _ _ _ E f c hr => (pe_fn 1 Fd_of_word (by first | decide | simp) (hr.mono (by decide)) (by rfl) (passes_call (takes_of rfl rfl rfl rfl) fun _ _ _ _ h => h) (pa_cons (pv 15) (pa_cons (pv 16) pa_nil))))))
      h))), ?_⟩
  try simp only [cxOf_K]
  clear hr tE pE h

  rintro Γ Ψ ⟨d, id, rfl⟩ fin
  walk_at "fl"
  refine w_lcN rfl (tgt_name (by simp)) (fun e => ∃ x : Int, e = .int x ∧ (0 ≤ x ∧ x < 3)) (fun Γ' => ∃ d, IsDice d ∧ Γ' = [.un, .ow d, .un, .un, .un, .un, .un, .un, .un, .un, .un, .un, .un, .un, .un, .un, .un, .un, .un, .un, .un, .un, .un]) (i_rng1 ?_)
  walk_at "fl"
  refine use_roll id (by omega) (by omega) fun n1 d1 a1 b1 j1 => ?_
  walk_at "fl"
  refine ⟨by omega, by omega, small (by rw [rngD_len]; omega), ⟨d1, j1, rfl⟩, ?_, ?_⟩
  · rintro i x Γ' ed ⟨d2, j2, rfl⟩
    obtain ⟨x, rfl⟩ := rng_at ed
    walk_at "nl"
    refine use_roll j2 (by omega) (by omega) fun r d3 a3 b3 j3 => ?_
    exact ⟨⟨_, rfl, a3, b3⟩, d3, j3, rfl⟩
  rintro acc Γ' hl hp ⟨d2, j2, rfl⟩
  obtain ⟨ns, rfl, l1, l2⟩ := ints_of hp
  rw [rngD_len] at hl
  have nl : ns.length ≤ 4 := by omega
  walk_at "fl"
  refine use_roll j2 (by omega) (by omega) fun sp d3 s0 s6 j3 => ?_
  walk_at "fl"
  obtain ⟨y1, y2, y3, rfl⟩ := j3
  refine w_told True.intro hTg rfl fun E => ?_
  walk_at "fl"
  refine ⟨_, ns, sp, rfl, by omega, .inr rfl, fun x hx => (l2 x hx).1, fun hw => ?_, fun hw => tX _ ?_⟩
  · walk_at "fl"
    exact s_wipe [5] rfl (fin _ ⟨_, ns, sp, _, ⟨y1, y2, y3, rfl⟩, nl, l2, s0, s6, .inl ⟨hw, rfl⟩, rfl⟩)
  · walk_at "fl"
    exact s_wipe [5] rfl (fin _ ⟨_, ns, sp, _, ⟨y1, y2, y3, rfl⟩, nl, l2, s0, s6, .inr ⟨hw, rfl⟩, rfl⟩)

end
end TW
namespace TW
open PySem L2 Evl DL
local macro_rules | `(tactic| walk_at "d1") => `(tactic| with_reducible first
  | refine s_seq ?_
  | refine iteT ?_
  | refine iteF ?_
  | refine s_asg ?_
  | refine g_nm rfl rfl ?_
  | refine s_if ?_
  | refine s_ret ?_
  | refine s_next ?_
  | refine s_retN ?_
  | refine s_drop ?_
  | refine s_brk ?_
  | refine s_cont ?_
  | refine s_aug1 rfl rfl ?_
  | refine s_fldO ?_
  | refine Exists.intro _ (Exists.intro _ (Exists.intro _ (And.intro rfl (And.intro (by assumption) (And.intro (by assumption) (And.intro (by decide) ?_))))))
  | refine w_var rfl ?_
  | refine w_int ?_
  | refine w_str ?_
  | refine w_bl ?_
  | refine w_non ?_
  | refine t_cmp ?_
  | refine rd_ixO rfl rfl ?_
  | refine w_op ?_
  | refine w_un ?_
  | refine w_chain ?_
  | refine t_test ?_
  | refine t_B ?_
  | refine t_not ?_
  | refine t_and ?_
  | refine t_or ?_
  | refine w_andV ?_
  | refine w_orV ?_
  | refine w_notV ?_
  | refine w_if ?_
  | refine w_tup ?_
  | refine w_lst ?_
  | refine w_isiInt ?_
  | refine w_rev ?_
  | refine w_cb ?_
  | refine w_sl ?_
  | refine w_join ?_
  | refine t_yes ?_
  | refine w_m1 ?_
  | refine rj_find ?_
  | refine rj_count ?_
  | refine w_joined ?_
  | refine a_nil ?_
  | refine a_cons ?_
  | refine o_none ?_
  | refine o_some ?_
  | refine g_tup rfl ?_
  | refine g_setO rfl rfl ?_
  | refine gs_nil ?_
  | refine gs_cons ?_
  | refine j_nil ?_
  | refine j_cons ?_
  | refine rd_lt ?_
  | refine rd_le ?_
  | refine rd_gt ?_
  | refine rd_ge ?_
  | refine rd_sub ?_
  | refine rd_mod (by first | decide | assumption) ?_
  | refine rd_div (by first | decide | (constructor <;> omega)) ?_
  | refine rd_mulR (by decide) ?_
  | refine rd_powC (by decide) ?_
  | refine rd_addI ?_
  | refine rd_eqI ?_
  | refine rd_neI ?_
  | refine rd_eqS ?_
  | refine rd_neS ?_
  | refine rd_eqB ?_
  | refine rd_neB ?_
  | refine rd_ipa ?_
  | refine rd_ips ?_
  | refine ru_neg ?_
  | refine rx_lenT ?_
  | refine rx_lenL ?_
  | refine rx_abs ?_
  | refine rc_intI ?_
  | refine rc_intB ?_
  | refine rc_tupT ?_
  | refine rc_tupL ?_
  | refine rc_tupR ?_
  | refine rs_tup ?_
  | refine rs_lst ?_
  | refine w_fldO rfl (by assumption) (by assumption) rfl ?_
  | refine w_fldV rfl (by assumption) (by assumption) rfl ?_
  | refine w_fld ?_
  | refine Exists.intro _ (And.intro rfl ?_)
  | refine Exists.intro _ (Exists.intro _ (Exists.intro _ (Exists.intro _ (And.intro rfl (And.intro (by assumption) (And.intro (by assumption) (And.intro (by rfl) ?_)))))))
  | refine w_callI (dds := []) (fun _ => .nil) (Exists.intro _ rfl) ?_
  | refine w_callI0 (dds := []) (fun _ => .nil) (Exists.intro _ rfl) ?_
  | refine w_call (dds := []) (fun _ => .nil) ?_
  | refine w_call0 (dds := []) (fun _ => .nil) ?_
  | refine w_make (dds := []) (fun _ => .nil) ?_
  | refine w_make0 (dds := []) (fun _ => .nil) ?_
  | refine w_meth (dds := []) (fun _ => .nil) ?_
  | refine w_meth0 (dds := []) (fun _ => .nil) ?_
  | refine And.intro (small (by simp only [List.length_cons, List.length_nil]; omega)) ?_
  | refine Exists.intro _ (Exists.intro _ (And.intro rfl (And.intro (by decide) ?_)))
  | refine Or.inl (Exists.intro _ (And.intro rfl ?_))
  | refine Or.inr (Exists.intro _ (And.intro rfl ?_))
  | refine And.intro rfl ?_)
local macro_rules | `(tactic| walk_at "dl") => `(tactic| repeat (first | walk_at "d1" | (dsimp only [onx, rets, lpe, rets1, List.cons_append, List.nil_append])))

local macro_rules | `(tactic| walk_at "n1") => `(tactic| with_reducible first
  | refine s_seq ?_
  | refine iteT ?_
  | refine iteF ?_
  | refine s_asg ?_
  | refine g_nm rfl rfl ?_
  | refine s_ret ?_
  | refine s_next ?_
  | refine s_retN ?_
  | refine s_drop ?_
  | refine s_brk ?_
  | refine s_cont ?_
  | refine s_aug1 rfl rfl ?_
  | refine s_fldO ?_
  | refine Exists.intro _ (Exists.intro _ (Exists.intro _ (And.intro rfl (And.intro (by assumption) (And.intro (by assumption) (And.intro (by decide) ?_))))))
  | refine w_var rfl ?_
  | refine w_int ?_
  | refine w_str ?_
  | refine w_bl ?_
  | refine w_non ?_
  | refine t_cmp ?_
  | refine rd_ixO rfl rfl ?_
  | refine w_op ?_
  | refine w_un ?_
  | refine w_chain ?_
  | refine t_test ?_
  | refine t_B ?_
  | refine t_not ?_
  | refine t_and ?_
  | refine t_or ?_
  | refine w_andV ?_
  | refine w_orV ?_
  | refine w_notV ?_
  | refine w_tup ?_
  | refine w_lst ?_
  | refine w_isiInt ?_
  | refine w_rev ?_
  | refine w_cb ?_
  | refine w_sl ?_
  | refine w_join ?_
  | refine t_yes ?_
  | refine w_m1 ?_
  | refine rj_find ?_
  | refine rj_count ?_
  | refine w_joined ?_
  | refine a_nil ?_
  | refine a_cons ?_
  | refine o_none ?_
  | refine o_some ?_
  | refine g_tup rfl ?_
  | refine g_setO rfl rfl ?_
  | refine gs_nil ?_
  | refine gs_cons ?_
  | refine j_nil ?_
  | refine j_cons ?_
  | refine rd_lt ?_
  | refine rd_le ?_
  | refine rd_gt ?_
  | refine rd_ge ?_
  | refine rd_sub ?_
  | refine rd_mod (by first | decide | assumption) ?_
  | refine rd_div (by first | decide | (constructor <;> omega)) ?_
  | refine rd_mulR (by decide) ?_
  | refine rd_powC (by decide) ?_
  | refine rd_addI ?_
  | refine rd_eqI ?_
  | refine rd_neI ?_
  | refine rd_eqS ?_
  | refine rd_neS ?_
  | refine rd_eqB ?_
  | refine rd_neB ?_
  | refine rd_ipa ?_
  | refine rd_ips ?_
  | refine ru_neg ?_
  | refine rx_lenT ?_
  | refine rx_lenL ?_
  | refine rx_abs ?_
  | refine rc_intI ?_
  | refine rc_intB ?_
  | refine rc_tupT ?_
  | refine rc_tupL ?_
  | refine rc_tupR ?_
  | refine rs_tup ?_
  | refine rs_lst ?_
  | refine w_fldO rfl (by assumption) (by assumption) rfl ?_
  | refine w_fldV rfl (by assumption) (by assumption) rfl ?_
  | refine w_fld ?_
  | refine Exists.intro _ (And.intro rfl ?_)
  | refine Exists.intro _ (Exists.intro _ (Exists.intro _ (Exists.intro _ (And.intro rfl (And.intro (by assumption) (And.intro (by assumption) (And.intro (by rfl) ?_)))))))
  | refine w_callI (dds := []) (fun _ => .nil) (Exists.intro _ rfl) ?_
  | refine w_callI0 (dds := []) (fun _ => .nil) (Exists.intro _ rfl) ?_
  | refine w_call (dds := []) (fun _ => .nil) ?_
  | refine w_call0 (dds := []) (fun _ => .nil) ?_
  | refine w_make (dds := []) (fun _ => .nil) ?_
  | refine w_make0 (dds := []) (fun _ => .nil) ?_
  | refine w_meth (dds := []) (fun _ => .nil) ?_
  | refine w_meth0 (dds := []) (fun _ => .nil) ?_
  | refine And.intro (small (by simp only [List.length_cons, List.length_nil]; omega)) ?_
  | refine Exists.intro _ (Exists.intro _ (And.intro rfl (And.intro (by decide) ?_)))
  | refine Or.inl (Exists.intro _ (And.intro rfl ?_))
  | refine Or.inr (Exists.intro _ (And.intro rfl ?_))
  | refine And.intro rfl ?_)
local macro_rules | `(tactic| walk_at "nl") => `(tactic| repeat (first | walk_at "n1" | (dsimp only [onx, rets, lpe, rets1, List.cons_append, List.nil_append])))

local macro_rules | `(tactic| walk_at "f1") => `(tactic| with_reducible first
  | refine s_seq ?_
  | refine iteT ?_
  | refine iteF ?_
  | refine s_asg ?_
  | refine g_nm rfl rfl ?_
  | refine s_ifF ?_
  | refine s_ret ?_
  | refine s_next ?_
  | refine s_retN ?_
  | refine s_drop ?_
  | refine s_brk ?_
  | refine s_cont ?_
  | refine s_aug1 rfl rfl ?_
  | refine s_fldO ?_
  | refine Exists.intro _ (Exists.intro _ (Exists.intro _ (And.intro rfl (And.intro (by assumption) (And.intro (by assumption) (And.intro (by decide) ?_))))))
  | refine w_var rfl ?_
  | refine w_int ?_
  | refine w_str ?_
  | refine w_bl ?_
  | refine w_non ?_
  | refine t_cmp ?_
  | refine rd_ixO rfl rfl ?_
  | refine w_op ?_
  | refine w_un ?_
  | refine w_chain ?_
  | refine t_test ?_
  | refine t_B ?_
  | refine t_not ?_
  | refine t_and ?_
  | refine t_orF ?_
  | refine w_andV ?_
  | refine w_orV ?_
  | refine w_notV ?_
  | refine w_tup ?_
  | refine w_lst ?_
  | refine w_isiInt ?_
  | refine w_rev ?_
  | refine w_cb ?_
  | refine w_sl ?_
  | refine w_join ?_
  | refine t_yes ?_
  | refine w_m1 ?_
  | refine rj_find ?_
  | refine rj_count ?_
  | refine w_joined ?_
  | refine a_nil ?_
  | refine a_cons ?_
  | refine o_none ?_
  | refine o_some ?_
  | refine g_tup rfl ?_
  | refine g_setO rfl rfl ?_
  | refine gs_nil ?_
  | refine gs_cons ?_
  | refine j_nil ?_
  | refine j_cons ?_
  | refine rd_lt ?_
  | refine rd_le ?_
  | refine rd_gt ?_
  | refine rd_ge ?_
  | refine rd_sub ?_
  | refine rd_mod (by first | decide | assumption) ?_
  | refine rd_div (by first | decide | (constructor <;> omega)) ?_
  | refine rd_mulR (by decide) ?_
  | refine rd_powC (by decide) ?_
  | refine rd_addI ?_
  | refine rd_eqI ?_
  | refine rd_neI ?_
  | refine rd_eqS ?_
  | refine rd_neS ?_
  | refine rd_eqB ?_
  | refine rd_neB ?_
  | refine rd_ipa ?_
  | refine rd_ips ?_
  | refine ru_neg ?_
  | refine rx_lenT ?_
  | refine rx_lenL ?_
  | refine rx_abs ?_
  | refine rc_intI ?_
  | refine rc_intB ?_
  | refine rc_tupT ?_
  | refine rc_tupL ?_
  | refine rc_tupR ?_
  | refine rs_tup ?_
  | refine rs_lst ?_
  | refine w_fldO rfl (by assumption) (by assumption) rfl ?_
  | refine w_fldV rfl (by assumption) (by assumption) rfl ?_
  | refine w_fld ?_
  | refine Exists.intro _ (And.intro rfl ?_)
  | refine Exists.intro _ (Exists.intro _ (Exists.intro _ (Exists.intro _ (And.intro rfl (And.intro (by assumption) (And.intro (by assumption) (And.intro (by rfl) ?_)))))))
  | refine w_callI (dds := []) (fun _ => .nil) (Exists.intro _ rfl) ?_
  | refine w_callI0 (dds := []) (fun _ => .nil) (Exists.intro _ rfl) ?_
  | refine w_call (dds := []) (fun _ => .nil) ?_
  | refine w_call0 (dds := []) (fun _ => .nil) ?_
  | refine w_make (dds := []) (fun _ => .nil) ?_
  | refine w_make0 (dds := []) (fun _ => .nil) ?_
  | refine w_meth (dds := []) (fun _ => .nil) ?_
  | refine w_meth0 (dds := []) (fun _ => .nil) ?_
  | refine And.intro (small (by simp only [List.length_cons, List.length_nil]; omega)) ?_
  | refine Exists.intro _ (Exists.intro _ (And.intro rfl (And.intro (by decide) ?_)))
  | refine Or.inl (Exists.intro _ (And.intro rfl ?_))
  | refine Or.inr (Exists.intro _ (And.intro rfl ?_))
  | refine And.intro rfl ?_)
local macro_rules | `(tactic| walk_at "fl") => `(tactic| repeat (first | walk_at "f1" | (dsimp only [onx, rets, lpe, rets1, List.cons_append, List.nil_append])))

theorem wtape_at {ns : List Int} {sp : Int} (w : WP ns sp) (k : Int) : (wtape ns sp).at k = if 0 ≤ sp + k ∧ sp + k < ns.length then ra ns (sp + k).toNat else 0 := by
  have hs : 0 ≤ sp ∧ (sp < ns.length ∨ (ns = [] ∧ sp = 0)) := by
    rcases w with ⟨a, b⟩ | ⟨a, b⟩
    · exact ⟨by omega, .inr ⟨a, b⟩⟩
    · exact ⟨a, .inl b⟩
  obtain ⟨s0, s1⟩ := hs
  unfold wtape
  rcases int3 k with rfl | ⟨n, rfl⟩ | ⟨n, rfl⟩
  · show ns.getD sp.toNat 0 = _
    rw [Int.add_zero]
    rcases s1 with h | ⟨h1, h2⟩
    · rw [if_pos ⟨s0, h⟩]
      unfold ra
      rw [List.getD_eq_getElem?_getD]
    · subst h1 h2
      rfl
  · rw [at_p]
    show ra (trim (ns.drop (sp.toNat + 1))) n = _
    rw [ra_trim]
    unfold ra
    rw [List.getElem?_drop]
    split
    · rename_i h
      rw [show (sp + ((n : Int) + 1)).toNat = sp.toNat + 1 + n by omega]
    · rename_i h
      rw [List.getElem?_eq_none (by omega)]
      rfl
  · rw [at_n]
    show ra (trim (ns.take sp.toNat).reverse) n = _
    rw [ra_trim]
    rcases s1 with h | ⟨h1, h2⟩
    · have hl : (ns.take sp.toNat).length = sp.toNat := by rw [List.length_take]; omega
      split
      · rename_i q
        unfold ra
        rw [List.getElem?_reverse (by rw [hl]; omega), hl, List.getElem?_take, if_pos (by omega), show (sp + -((n : Int) + 1)).toNat = sp.toNat - 1 - n by omega]
      · exact ra_out (by rw [List.length_reverse, hl]; omega)
    · subst h1 h2
      rw [if_neg (by omega)]
      exact ra_out (by simp)
theorem at_dI' {xs : List Int} {i : Int} (h0 : 0 ≤ i) (h : i < xs.length) : L2.atI (dI xs) i = some (.int (ra xs i.toNat)) := by
  have e := at_dI (xs := xs) (i := i.toNat) (by omega)
  rw [Int.toNat_of_nonneg h0] at e
  exact e
theorem rng_mem {lo : Int} {n i : Nat} {x : Int} (ed : (rngD lo n)[i]? = some (.int x)) : lo ≤ x ∧ x < lo + n := by
  have h1 := (List.getElem?_eq_some_iff.mp ed).1
  rw [rngD_len] at h1
  rw [rngD_get h1] at ed
  have := Dt.int.inj (Option.some.inj ed)
  omega
theorem bl_eq {b : Bool} {q : Prop} [Decidable q] (h : b = true ↔ q) : Dt.bl b = .bl (decide q) := by
  congr 1
  rw [Bool.eq_iff_iff, h, decide_eq_true_iff]
section
variable {P : Program} {w : World} {K : PySem.W.Frag} {Tb : TbT} {mg : Str → Option Value} {base : Heap}
theorem seg_8 {f c : Addr} {C X : Addr} (T : Tx K mg) (NoEq_Tape : NoEq K C) (Md_Tape_at : Md P w K mg base C "at" P_Tape_at [] 2 (spD K Tb (pm_at C))) {A : Around} {outer : List Env} {s : Shared} {H : Hp} {E : XK} (hr : Room 6 (A.deeper (PyProof.Rows.envOfC "law" (defScope s_law) s.heap.objs.size f (.ref c)))) {tr : TS} (h : PSs (cxOf (L2.CX P w) P w K mg base N_law "law" (defScope s_law) f (.ref c) A outer s H E) (dayB.drop 18) tr) :
    ∃ t, PSs (cxOf (L2.CX P w) P w K mg base N_law "law" (defScope s_law) f (.ref c) A outer s H E) (dayB.drop 16) t ∧ ∀ Γ Ψ, (∃ (d : Dt) (ns : List Int) (sp : Int) (D : Dt), IsDice d ∧ ns.length ≤ 4 ∧ (∀ x ∈ ns, 0 ≤ x ∧ x < 3) ∧ 0 ≤ sp ∧ sp < 6 ∧ MadeOf C ns sp D ∧ Γ = [.un, .ow d, .un, .un, .un, .un, .un, .un, .un, .un, .un, .un, .un, .un, .un, .im (.lst (dI ns)), .im (.int sp), .im D, .un, .un, .un, .un, .un]) → (∀ Γ', (∃ (d : Dt) (ns : List Int), IsDice d ∧ ns.length ≤ 4 ∧ (∀ x ∈ ns, 0 ≤ x ∧ x < 3) ∧ Γ' = [.un, .ow d, .un, .un, .un, .un, .un, .un, .un, .un, .un, .un, .un, .un, .un, .im (.lst (dI ns)), .un, .un, .un, .un, .un, .un, .un]) → Ws ⟨K, Tb, [], E, fun _ => False, True⟩ tr Γ' Ψ) → Ws ⟨K, Tb, [], E, fun _ => False, True⟩ t Γ Ψ := by
  have tE : Takes (cxOf (L2.CX P w) P w K mg base N_law "law" (defScope s_law) f (.ref c) A outer s H E) (fun cls d _ H => E cls d H) := takes_of rfl rfl rfl rfl
  have pE : Passes (L2.CX P w) (cxOf (L2.CX P w) P w K mg base N_law "law" (defScope s_law) f (.ref c) A outer s H E) E := passes_call tE fun _ _ _ _ h => h
  refine ⟨_, (pss_cons (ps_if (pt_cmpR (op_neK K rfl hr.units) (pe_cmpR (op_eqZ K rfl hr.units NoEq_Tape) (pv 17) pe_str (nomark _)) (pe_and (pe_cmpR op_geX (pv 16) (pe_callB (call_lenK K rfl) (by rfl) T.len (by decide +kernel) (pa_cons (pv 15) pa_nil)) (nomark _)) (pe_one (pe_not (pe_and (pe_cmpR (op_eqK K rfl hr.units) (pv 15) (pe_lst pa_nil) (nomark _)) (pe_one (pe_cmpR (op_eqK K rfl hr.units) (pv 16) pe_int (nomark _))))))) (nomark _)) (pss_one (ps_ret pe_bl)) pss_nil)
      (pss_cons (ps_if (PW.pt (pw_and (pt_cmpR (op_neZ K rfl hr.units NoEq_Tape) (pv 17) pe_str (nomark _)) (pw_and1 (pt_cmpR (op_neK K rfl hr.units) (pe_lc (own := [("k", 5)]) rfl sc_law.nd (pi_range2 (by rfl) T.range (pa_cons (pe_op op_subX pe_int pe_int) (pa_cons pe_int pa_nil))) (blkOk_by (N := N_law) (sc := defScope s_law) (by decide +kernel)) (fun _ _ _ _ _ => (pg_name (i := 5) sc_law.nd rfl (by first | exact Or.inl rfl | exact Or.inr rfl))) (fun _ _ _ _ _ => pts_one (pt_cmpR (op_neK K rfl hr.units) (pe_md 0 Md_Tape_at (by first | decide | simp) (pv 17) (hr.mono (by decide)) passL (pa_cons (pv 5) pa_nil)) (pe_ifExp (pt_chain op_leX op_ltX pe_int (pe_op (op_addK K rfl) (pv 16) (pv 5)) (pe_callB (call_lenK K rfl) (by rfl) T.len (by decide +kernel) (pa_cons (pv 15) pa_nil))) (pe_ix (ix_seqK K rfl) (pv 15) (pe_op (op_addK K rfl) (pv 16) (pv 5)) (fun _ _ => rfl)) pe_int) (nomark _))) (fun _ _ _ _ _ => (pv 5))) (pe_lst pa_nil) (nomark _))))) (pss_one (ps_ret pe_bl)) pss_nil)
      h)), ?_⟩
  try simp only [cxOf_K]
  clear hr tE pE h

  rintro Γ Ψ ⟨d0, ns, sp, D, id, nl, n3, s0, s6, hm, rfl⟩ fin
  rcases hm with ⟨hw, rfl⟩ | ⟨hw, rfl⟩
  · have hq : ¬ (sp ≥ ns.length ∧ ¬ (ns = [] ∧ sp = 0)) := fun ⟨a, b⟩ => by
      rcases hw with h | h
      · exact b h
      · omega
    have dl : (dI ns).length = ns.length := dI_len ns
    walk_at "fl"
    refine rd_eqZi ?_
    refine Wp.mono (Φ := fun d Γ1 => d = .bl (decide (sp ≥ ns.length ∧ ¬ (ns = [] ∧ sp = 0))) ∧ Γ1 = [.un, .ow d0, .un, .un, .un, .un, .un, .un, .un, .un, .un, .un, .un, .un, .un, .im (.lst (dI ns)), .im (.int sp), .im ((wtape ns sp).d C), .un, .un, .un, .un, .un]) ?_ ?_
    · walk_at "nl"
      refine ite_dec (fun h1 => ?_) fun h1 => ?_
      · walk_at "nl"
        refine rd_eqE (eqe_lst eqe_int) (by decide) ns [] ?_
        walk_at "nl"
        refine ite_dec (fun h2 => ?_) fun h2 => ?_
        · walk_at "nl"
          exact ⟨bl_eq (by simp [h2]; omega), rfl⟩
        · walk_at "nl"
          exact ⟨bl_eq (by simp [h2]; omega), rfl⟩
      · walk_at "nl"
        exact ⟨bl_eq (by simp; omega), rfl⟩
    rintro _ _ ⟨rfl, rfl⟩
    rw [decide_eq_false hq]
    walk_at "fl"
    refine rd_neZi ⟨_, rfl, iteT ?_⟩
    walk_at "fl"
    refine w_lcF rfl (tgt_name (by simp)) (fun _ => false) _root_.id (i_rng2 ?_)
    walk_at "fl"
    refine ⟨small (by rw [rngD_len]; decide), fun i x ed => ?_, ?_⟩
    · obtain ⟨x, rfl⟩ := rng_at ed
      walk_at "nl"
      refine ⟨wtape ns sp, x, rfl, ?_, ?_⟩
      · have a1 := trim_len (ns.take sp.toNat).reverse
        have a2 := trim_len (ns.drop (sp.toNat + 1))
        rw [List.length_reverse, List.length_take] at a1
        rw [List.length_drop] at a2
        exact ⟨by show (trim (ns.take sp.toNat).reverse).length ≤ 5000; omega, by show (trim (ns.drop (sp.toNat + 1))).length ≤ 5000; omega⟩
      rw [wtape_at hw]
      refine w_ifP (0 ≤ sp + x ∧ sp + x < ns.length) ?_ (fun h => ?_) fun h => ?_
      · walk_at "nl"
        refine ite_dec (fun h2 => ?_) fun h2 => ?_
        · walk_at "nl"
          simp [dl, h2]
        · simp [h2]
      · walk_at "nl"
        refine rd_ixL (at_dI' h.1 h.2) ?_
        rw [if_pos h]
        walk_at "nl"
        refine ⟨by simp, ?_⟩
        simp
        rfl
      · walk_at "nl"
        rw [if_neg h]
        simp
        rfl
    walk_at "fl"
    rw [List.filter_eq_nil_iff.mpr (by simp)]
    refine rd_neE (eqe_lst eqe_int) (by decide) ([] : List Int) [] ?_
    refine ⟨_, rfl, nF rfl ?_⟩
    walk_at "fl"
    exact s_wipe [5, 16, 17] rfl (fin _ ⟨d0, ns, id, nl, n3, rfl⟩)
  · have hq : sp ≥ ns.length ∧ ¬ (ns = [] ∧ sp = 0) := ⟨by
      have h : ¬ sp < ns.length := fun h => hw (.inr ⟨s0, h⟩)
      omega, fun h => hw (.inl h)⟩
    have dl : (dI ns).length = ns.length := dI_len ns
    walk_at "fl"
    refine rd_eqZ (rd_eqS ?_)
    refine Wp.mono (Φ := fun d Γ1 => d = .bl (decide (sp ≥ ns.length ∧ ¬ (ns = [] ∧ sp = 0))) ∧ Γ1 = [.un, .ow d0, .un, .un, .un, .un, .un, .un, .un, .un, .un, .un, .un, .un, .un, .im (.lst (dI ns)), .im (.int sp), .im (.str "tape"), .un, .un, .un, .un, .un]) ?_ ?_
    · walk_at "nl"
      refine ite_dec (fun h1 => ?_) fun h1 => ?_
      · walk_at "nl"
        refine rd_eqE (eqe_lst eqe_int) (by decide) ns [] ?_
        walk_at "nl"
        refine ite_dec (fun h2 => ?_) fun h2 => ?_
        · walk_at "nl"
          exact ⟨bl_eq (by simp [h2]; omega), rfl⟩
        · walk_at "nl"
          exact ⟨bl_eq (by simp [h2]; omega), rfl⟩
      · walk_at "nl"
        exact ⟨bl_eq (by simp; omega), rfl⟩
    rintro _ _ ⟨rfl, rfl⟩
    rw [decide_eq_true hq, decide_eq_true rfl]
    walk_at "fl"
    refine rd_neZ (rd_neS ⟨_, rfl, ?_⟩)
    rw [decide_eq_true rfl]
    refine iteF ⟨rfl, ?_⟩
    walk_at "fl"
    exact s_wipe [16, 17] rfl (fin _ ⟨d0, ns, id, nl, n3, rfl⟩)

end
end TW
namespace TW
open PySem L2 Evl DL
local macro_rules | `(tactic| walk_at "d1") => `(tactic| with_reducible first
  | refine s_seq ?_
  | refine iteT ?_
  | refine iteF ?_
  | refine s_asg ?_
  | refine g_nm rfl rfl ?_
  | refine s_if ?_
  | refine s_ret ?_
  | refine s_next ?_
  | refine s_retN ?_
  | refine s_drop ?_
  | refine s_brk ?_
  | refine s_cont ?_
  | refine s_aug1 rfl rfl ?_
  | refine s_fldO ?_
  | refine Exists.intro _ (Exists.intro _ (Exists.intro _ (And.intro rfl (And.intro (by assumption) (And.intro (by assumption) (And.intro (by decide) ?_))))))
  | refine w_var rfl ?_
  | refine w_int ?_
  | refine w_str ?_
  | refine w_bl ?_
  | refine w_non ?_
  | refine t_cmp ?_
  | refine rd_ixO rfl rfl ?_
  | refine w_op ?_
  | refine w_un ?_
  | refine w_chain ?_
  | refine t_test ?_
  | refine t_B ?_
  | refine t_not ?_
  | refine t_and ?_
  | refine t_or ?_
  | refine w_andV ?_
  | refine w_orV ?_
  | refine w_notV ?_
  | refine w_if ?_
  | refine w_tup ?_
  | refine w_lst ?_
  | refine w_isiInt ?_
  | refine w_rev ?_
  | refine w_cb ?_
  | refine w_sl ?_
  | refine w_join ?_
  | refine t_yes ?_
  | refine w_m1 ?_
  | refine rj_find ?_
  | refine rj_count ?_
  | refine w_joined ?_
  | refine a_nil ?_
  | refine a_cons ?_
  | refine o_none ?_
  | refine o_some ?_
  | refine g_tup rfl ?_
  | refine g_setO rfl rfl ?_
  | refine gs_nil ?_
  | refine gs_cons ?_
  | refine j_nil ?_
  | refine j_cons ?_
  | refine rd_lt ?_
  | refine rd_le ?_
  | refine rd_gt ?_
  | refine rd_ge ?_
  | refine rd_sub ?_
  | refine rd_mod (by first | decide | assumption) ?_
  | refine rd_div (by first | decide | (constructor <;> omega)) ?_
  | refine rd_mulR (by decide) ?_
  | refine rd_powC (by decide) ?_
  | refine rd_addI ?_
  | refine rd_eqI ?_
  | refine rd_neI ?_
  | refine rd_eqS ?_
  | refine rd_neS ?_
  | refine rd_eqB ?_
  | refine rd_neB ?_
  | refine rd_ipa ?_
  | refine rd_ips ?_
  | refine ru_neg ?_
  | refine rx_lenT ?_
  | refine rx_lenL ?_
  | refine rx_abs ?_
  | refine rc_intI ?_
  | refine rc_intB ?_
  | refine rc_tupT ?_
  | refine rc_tupL ?_
  | refine rc_tupR ?_
  | refine rs_tup ?_
  | refine rs_lst ?_
  | refine w_fldO rfl (by assumption) (by assumption) rfl ?_
  | refine w_fldV rfl (by assumption) (by assumption) rfl ?_
  | refine w_fld ?_
  | refine Exists.intro _ (And.intro rfl ?_)
  | refine Exists.intro _ (Exists.intro _ (Exists.intro _ (Exists.intro _ (And.intro rfl (And.intro (by assumption) (And.intro (by assumption) (And.intro (by rfl) ?_)))))))
  | refine w_callI (dds := []) (fun _ => .nil) (Exists.intro _ rfl) ?_
  | refine w_callI0 (dds := []) (fun _ => .nil) (Exists.intro _ rfl) ?_
  | refine w_call (dds := []) (fun _ => .nil) ?_
  | refine w_call0 (dds := []) (fun _ => .nil) ?_
  | refine w_make (dds := []) (fun _ => .nil) ?_
  | refine w_make0 (dds := []) (fun _ => .nil) ?_
  | refine w_meth (dds := []) (fun _ => .nil) ?_
  | refine w_meth0 (dds := []) (fun _ => .nil) ?_
  | refine And.intro (small (by simp only [List.length_cons, List.length_nil]; omega)) ?_
  | refine Exists.intro _ (Exists.intro _ (And.intro rfl (And.intro (by decide) ?_)))
  | refine Or.inl (Exists.intro _ (And.intro rfl ?_))
  | refine Or.inr (Exists.intro _ (And.intro rfl ?_))
  | refine And.intro rfl ?_)
local macro_rules | `(tactic| walk_at "dl") => `(tactic| repeat (first | walk_at "d1" | (dsimp only [onx, rets, lpe, rets1, List.cons_append, List.nil_append])))

local macro_rules | `(tactic| walk_at "n1") => `(tactic| with_reducible first
  | refine s_seq ?_
  | refine iteT ?_
  | refine iteF ?_
  | refine s_asg ?_
  | refine g_nm rfl rfl ?_
  | refine s_ret ?_
  | refine s_next ?_
  | refine s_retN ?_
  | refine s_drop ?_
  | refine s_brk ?_
  | refine s_cont ?_
  | refine s_aug1 rfl rfl ?_
  | refine s_fldO ?_
  | refine Exists.intro _ (Exists.intro _ (Exists.intro _ (And.intro rfl (And.intro (by assumption) (And.intro (by assumption) (And.intro (by decide) ?_))))))
  | refine w_var rfl ?_
  | refine w_int ?_
  | refine w_str ?_
  | refine w_bl ?_
  | refine w_non ?_
  | refine t_cmp ?_
  | refine rd_ixO rfl rfl ?_
  | refine w_op ?_
  | refine w_un ?_
  | refine w_chain ?_
  | refine t_test ?_
  | refine t_B ?_
  | refine t_not ?_
  | refine t_and ?_
  | refine t_or ?_
  | refine w_andV ?_
  | refine w_orV ?_
  | refine w_notV ?_
  | refine w_tup ?_
  | refine w_lst ?_
  | refine w_isiInt ?_
  | refine w_rev ?_
  | refine w_cb ?_
  | refine w_sl ?_
  | refine w_join ?_
  | refine t_yes ?_
  | refine w_m1 ?_
  | refine rj_find ?_
  | refine rj_count ?_
  | refine w_joined ?_
  | refine a_nil ?_
  | refine a_cons ?_
  | refine o_none ?_
  | refine o_some ?_
  | refine g_tup rfl ?_
  | refine g_setO rfl rfl ?_
  | refine gs_nil ?_
  | refine gs_cons ?_
  | refine j_nil ?_
  | refine j_cons ?_
  | refine rd_lt ?_
  | refine rd_le ?_
  | refine rd_gt ?_
  | refine rd_ge ?_
  | refine rd_sub ?_
  | refine rd_mod (by first | decide | assumption) ?_
  | refine rd_div (by first | decide | (constructor <;> omega)) ?_
  | refine rd_mulR (by decide) ?_
  | refine rd_powC (by decide) ?_
  | refine rd_addI ?_
  | refine rd_eqI ?_
  | refine rd_neI ?_
  | refine rd_eqS ?_
  | refine rd_neS ?_
  | refine rd_eqB ?_
  | refine rd_neB ?_
  | refine rd_ipa ?_
  | refine rd_ips ?_
  | refine ru_neg ?_
  | refine rx_lenT ?_
  | refine rx_lenL ?_
  | refine rx_abs ?_
  | refine rc_intI ?_
  | refine rc_intB ?_
  | refine rc_tupT ?_
  | refine rc_tupL ?_
  | refine rc_tupR ?_
  | refine rs_tup ?_
  | refine rs_lst ?_
  | refine w_fldO rfl (by assumption) (by assumption) rfl ?_
  | refine w_fldV rfl (by assumption) (by assumption) rfl ?_
  | refine w_fld ?_
  | refine Exists.intro _ (And.intro rfl ?_)
  | refine Exists.intro _ (Exists.intro _ (Exists.intro _ (Exists.intro _ (And.intro rfl (And.intro (by assumption) (And.intro (by assumption) (And.intro (by rfl) ?_)))))))
  | refine w_callI (dds := []) (fun _ => .nil) (Exists.intro _ rfl) ?_
  | refine w_callI0 (dds := []) (fun _ => .nil) (Exists.intro _ rfl) ?_
  | refine w_call (dds := []) (fun _ => .nil) ?_
  | refine w_call0 (dds := []) (fun _ => .nil) ?_
  | refine w_make (dds := []) (fun _ => .nil) ?_
  | refine w_make0 (dds := []) (fun _ => .nil) ?_
  | refine w_meth (dds := []) (fun _ => .nil) ?_
  | refine w_meth0 (dds := []) (fun _ => .nil) ?_
  | refine And.intro (small (by simp only [List.length_cons, List.length_nil]; omega)) ?_
  | refine Exists.intro _ (Exists.intro _ (And.intro rfl (And.intro (by decide) ?_)))
  | refine Or.inl (Exists.intro _ (And.intro rfl ?_))
  | refine Or.inr (Exists.intro _ (And.intro rfl ?_))
  | refine And.intro rfl ?_)
local macro_rules | `(tactic| walk_at "nl") => `(tactic| repeat (first | walk_at "n1" | (dsimp only [onx, rets, lpe, rets1, List.cons_append, List.nil_append])))

local macro_rules | `(tactic| walk_at "f1") => `(tactic| with_reducible first
  | refine s_seq ?_
  | refine iteT ?_
  | refine iteF ?_
  | refine s_asg ?_
  | refine g_nm rfl rfl ?_
  | refine s_ifF ?_
  | refine s_ret ?_
  | refine s_next ?_
  | refine s_retN ?_
  | refine s_drop ?_
  | refine s_brk ?_
  | refine s_cont ?_
  | refine s_aug1 rfl rfl ?_
  | refine s_fldO ?_
  | refine Exists.intro _ (Exists.intro _ (Exists.intro _ (And.intro rfl (And.intro (by assumption) (And.intro (by assumption) (And.intro (by decide) ?_))))))
  | refine w_var rfl ?_
  | refine w_int ?_
  | refine w_str ?_
  | refine w_bl ?_
  | refine w_non ?_
  | refine t_cmp ?_
  | refine rd_ixO rfl rfl ?_
  | refine w_op ?_
  | refine w_un ?_
  | refine w_chain ?_
  | refine t_test ?_
  | refine t_B ?_
  | refine t_not ?_
  | refine t_and ?_
  | refine t_orF ?_
  | refine w_andV ?_
  | refine w_orV ?_
  | refine w_notV ?_
  | refine w_tup ?_
  | refine w_lst ?_
  | refine w_isiInt ?_
  | refine w_rev ?_
  | refine w_cb ?_
  | refine w_sl ?_
  | refine w_join ?_
  | refine t_yes ?_
  | refine w_m1 ?_
  | refine rj_find ?_
  | refine rj_count ?_
  | refine w_joined ?_
  | refine a_nil ?_
  | refine a_cons ?_
  | refine o_none ?_
  | refine o_some ?_
  | refine g_tup rfl ?_
  | refine g_setO rfl rfl ?_
  | refine gs_nil ?_
  | refine gs_cons ?_
  | refine j_nil ?_
  | refine j_cons ?_
  | refine rd_lt ?_
  | refine rd_le ?_
  | refine rd_gt ?_
  | refine rd_ge ?_
  | refine rd_sub ?_
  | refine rd_mod (by first | decide | assumption) ?_
  | refine rd_div (by first | decide | (constructor <;> omega)) ?_
  | refine rd_mulR (by decide) ?_
  | refine rd_powC (by decide) ?_
  | refine rd_addI ?_
  | refine rd_eqI ?_
  | refine rd_neI ?_
  | refine rd_eqS ?_
  | refine rd_neS ?_
  | refine rd_eqB ?_
  | refine rd_neB ?_
  | refine rd_ipa ?_
  | refine rd_ips ?_
  | refine ru_neg ?_
  | refine rx_lenT ?_
  | refine rx_lenL ?_
  | refine rx_abs ?_
  | refine rc_intI ?_
  | refine rc_intB ?_
  | refine rc_tupT ?_
  | refine rc_tupL ?_
  | refine rc_tupR ?_
  | refine rs_tup ?_
  | refine rs_lst ?_
  | refine w_fldO rfl (by assumption) (by assumption) rfl ?_
  | refine w_fldV rfl (by assumption) (by assumption) rfl ?_
  | refine w_fld ?_
  | refine Exists.intro _ (And.intro rfl ?_)
  | refine Exists.intro _ (Exists.intro _ (Exists.intro _ (Exists.intro _ (And.intro rfl (And.intro (by assumption) (And.intro (by assumption) (And.intro (by rfl) ?_)))))))
  | refine w_callI (dds := []) (fun _ => .nil) (Exists.intro _ rfl) ?_
  | refine w_callI0 (dds := []) (fun _ => .nil) (Exists.intro _ rfl) ?_
  | refine w_call (dds := []) (fun _ => .nil) ?_
  | refine w_call0 (dds := []) (fun _ => .nil) ?_
  | refine w_make (dds := []) (fun _ => .nil) ?_
  | refine w_make0 (dds := []) (fun _ => .nil) ?_
  | refine w_meth (dds := []) (fun _ => .nil) ?_
  | refine w_meth0 (dds := []) (fun _ => .nil) ?_
  | refine And.intro (small (by simp only [List.length_cons, List.length_nil]; omega)) ?_
  | refine Exists.intro _ (Exists.intro _ (And.intro rfl (And.intro (by decide) ?_)))
  | refine Or.inl (Exists.intro _ (And.intro rfl ?_))
  | refine Or.inr (Exists.intro _ (And.intro rfl ?_))
  | refine And.intro rfl ?_)
local macro_rules | `(tactic| walk_at "fl") => `(tactic| repeat (first | walk_at "f1" | (dsimp only [onx, rets, lpe, rets1, List.cons_append, List.nil_append])))

/-- the places of what isn't nought -/
def ends (ns : List Int) : List Nat := (List.range ns.length).filter fun i => !decide (ra ns i = 0)
theorem ends_snoc (xs : List Int) (x : Int) : ends (xs ++ [x]) = ends xs ++ (if x = 0 then [] else [xs.length]) := by
  unfold ends
  rw [List.length_append, List.length_singleton, List.range_succ, List.filter_append]
  congr 1
  · exact List.filter_congr fun i hi => by
      have h := List.mem_range.mp hi
      unfold ra
      rw [List.getElem?_append_left h]
  · have e : ra (xs ++ [x]) xs.length = x := by
      unfold ra
      rw [List.getElem?_append_right (Nat.le_refl _), Nat.sub_self]
      rfl
    rw [List.filter_cons, e]
    by_cases h : x = 0 <;> simp [h]
theorem ends_trim : ∀ xs : List Int, (ends xs = [] → trim xs = []) ∧ ∀ L m, ends xs = L ++ [m] → m < xs.length ∧ trim xs = xs.take (m + 1) := by
  intro xs
  induction xs using snoc_rec with
  | h0 => exact ⟨fun _ => rfl, fun L m h => by simp [ends] at h⟩
  | h1 xs x ih =>
    rw [ends_snoc]
    by_cases hx : x = 0
    · rw [if_pos hx, hx, List.append_nil, trim_zero]
      refine ⟨ih.1, fun L m h => ?_⟩
      obtain ⟨a, b⟩ := ih.2 L m h
      refine ⟨by rw [List.length_append]; omega, ?_⟩
      rw [b, List.take_append_of_le_length (by omega)]
    · rw [if_neg hx, trim_nz xs hx]
      refine ⟨fun h => by simp at h, fun L m h => ?_⟩
      have e : m = xs.length := by
        have := congrArg List.getLast? h
        rw [List.getLast?_concat, List.getLast?_concat] at this
        exact (Option.some.inj this).symm
      subst e
      refine ⟨by rw [List.length_append, List.length_singleton]; omega, ?_⟩
      rw [List.take_of_length_le (by rw [List.length_append, List.length_singleton]; omega)]
theorem ends_dt (ns : List Int) : (rngD 0 ns.length).filter (fun d => match d with | .int i => !decide (ra ns i.toNat = 0) | _ => false) = dI (nI (ends ns)) := by
  unfold rngD dI ends nI
  rw [List.filter_map, List.map_map]
  have e : ((fun d => match d with | .int i => !decide (ra ns i.toNat = 0) | _ => false) ∘ fun (i : Nat) => Dt.int (0 + (i : Int))) = fun i => !decide (ra ns i = 0) := by
    funext i
    show (!decide (ra ns (0 + (i : Int)).toNat = 0)) = _
    rw [Int.zero_add, Int.toNat_natCast]
  rw [e]
  refine List.map_congr_left fun i _ => ?_
  show Dt.int (0 + (i : Int)) = Dt.int i
  rw [Int.zero_add]
theorem at_last {L : List Int} {m : Int} : L2.atI (dI (L ++ [m])) (-1) = some (.int m) := by
  unfold L2.atI L2.ixN
  rw [dI_len, List.length_append, List.length_singleton, if_neg (by decide), if_pos (by omega)]
  show (dI (L ++ [m]))[(-1 + ((L.length + 1 : Nat) : Int)).toNat]? = _
  rw [show (-1 + ((L.length + 1 : Nat) : Int)).toNat = L.length by omega]
  unfold dI
  rw [List.map_append, List.getElem?_append_right (by rw [List.length_map]; exact Nat.le_refl _), List.length_map, Nat.sub_self]
  rfl
section
variable {P : Program} {w : World} {K : PySem.W.Frag} {Tb : TbT} {mg : Str → Option Value} {base : Heap}
theorem seg_9 {f c : Addr} {C X : Addr} (T : Tx K mg) (Fd_trimmed : Fd P w K mg base "trimmed" P_trimmed [] 1 (spD K Tb pm_trimmed)) (Fd_first_of : Fd P w K mg base "first_of" P_first_of [] 1 (spD K Tb pm_first_of)) {A : Around} {outer : List Env} {s : Shared} {H : Hp} {E : XK} (hr : Room 6 (A.deeper (PyProof.Rows.envOfC "law" (defScope s_law) s.heap.objs.size f (.ref c)))) {tr : TS} (h : PSs (cxOf (L2.CX P w) P w K mg base N_law "law" (defScope s_law) f (.ref c) A outer s H E) (dayB.drop 20) tr) :
    ∃ t, PSs (cxOf (L2.CX P w) P w K mg base N_law "law" (defScope s_law) f (.ref c) A outer s H E) (dayB.drop 18) t ∧ ∀ Γ Ψ, (∃ (d : Dt) (ns : List Int), IsDice d ∧ ns.length ≤ 4 ∧ (∀ x ∈ ns, 0 ≤ x ∧ x < 3) ∧ Γ = [.un, .ow d, .un, .un, .un, .un, .un, .un, .un, .un, .un, .un, .un, .un, .un, .im (.lst (dI ns)), .un, .un, .un, .un, .un, .un, .un]) → (∀ Γ', (∃ (d : Dt), IsDice d ∧ Γ' = [.un, .ow d, .un, .un, .un, .un, .un, .un, .un, .un, .un, .un, .un, .un, .un, .un, .un, .un, .un, .un, .un, .un, .un]) → Ws ⟨K, Tb, [], E, fun _ => False, True⟩ tr Γ' Ψ) → Ws ⟨K, Tb, [], E, fun _ => False, True⟩ t Γ Ψ := by
  have tE : Takes (cxOf (L2.CX P w) P w K mg base N_law "law" (defScope s_law) f (.ref c) A outer s H E) (fun cls d _ H => E cls d H) := takes_of rfl rfl rfl rfl
  have pE : Passes (L2.CX P w) (cxOf (L2.CX P w) P w K mg base N_law "law" (defScope s_law) f (.ref c) A outer s H E) E := passes_call tE fun _ _ _ _ h => h
  refine ⟨_, (pss_cons (ps_setLc (i := 18) (own := [("k", 5)]) rfl sc_law.nd rfl rfl (sw_true rfl rfl rfl (by decide +kernel)) (pi_range1 (by rfl) T.range (pa_cons (pe_callB (call_lenK K rfl) (by rfl) T.len (by decide +kernel) (pa_cons (pv 15) pa_nil)) pa_nil)) (blkOk_by (N := N_law) (sc := defScope s_law) (by decide +kernel)) (fun _ _ _ _ _ => (pg_name (i := 5) sc_law.nd rfl (by first | exact Or.inl rfl | exact Or.inr rfl))) (fun _ _ _ _ _ => pts_one (pt_cmpR (op_neK K rfl hr.units) (pe_ix (ix_seqK K rfl) (pv 15) (pv 5) (fun _ _ => rfl)) pe_int (nomark _))) (fun _ _ _ _ _ => (pv 5)))
      (pss_cons (ps_if (PW.pt (pw_or (pt_cmpR (op_neK K rfl hr.units) (pe_fn 0 Fd_trimmed (by first | decide | simp) (hr.mono (by decide)) (by rfl) pE (pa_cons (pv 15) pa_nil)) (pe_callTy (call_tupK K rfl) (by rfl) T.tuple (by decide +kernel) (pa_cons (pe_ifExp (pt_cmpR (op_neK K rfl hr.units) (pv 18) (pe_lst pa_nil) (nomark _)) (pe_slice (sl_K K rfl) (pv 15) po_none (po_some (pe_op (op_addK K rfl) (pe_ix (ix_seqK K rfl) (pv 18) (pe_un un_negX pe_int) (fun _ _ => rfl)) pe_int))) (pe_lst pa_nil)) pa_nil)) (nomark _)) (pw_or1 (pt_cmpR (op_neK K rfl hr.units) (pe_fn 0 Fd_first_of (by first | decide | simp) (hr.mono (by decide)) (by rfl) pE (pa_cons (pv 15) pa_nil)) (pe_ix (ix_seqK K rfl) (pe_op (op_addK K rfl) (pv 15) (pe_lst (pa_cons pe_int pa_nil))) pe_int (fun _ _ => rfl)) (nomark _))))) (pss_one (ps_ret pe_bl)) pss_nil)
      h)), ?_⟩
  try simp only [cxOf_K]
  clear hr tE pE h

  rintro Γ Ψ ⟨d0, ns, id, nl, n3, rfl⟩ fin
  have dl : (dI ns).length = ns.length := dI_len ns
  walk_at "fl"
  refine w_lcF rfl (tgt_name (by simp)) (fun d => match d with | .int i => !decide (ra ns i.toNat = 0) | _ => false) _root_.id (i_rng1 ?_)
  walk_at "fl"
  rw [dl, Int.toNat_natCast]
  refine ⟨by omega, by omega, small (by rw [rngD_len]; omega), fun i x ed => ?_, ?_⟩
  · obtain ⟨x, rfl⟩ := rng_at ed
    have hx := rng_mem ed
    walk_at "nl"
    refine rd_ixL (at_dI' hx.1 (by omega)) ?_
    walk_at "nl"
    refine ite_nb (fun h => ?_) fun h => ?_
    · walk_at "nl"
      rfl
    · rfl
  rw [List.map_id, ends_dt]
  walk_at "fl"
  refine ⟨_, ns, rfl, ⟨by omega, .inr rfl⟩, ?_⟩
  obtain ⟨et, el⟩ := ends_trim ns
  have tl_ := ends_snoc
  refine Wp.mono (Φ := fun d Γ1 => d = .tup (dI (trim ns)) ∧ Γ1 = [.un, .ow d0, .un, .un, .un, .un, .un, .un, .un, .un, .un, .un, .un, .un, .un, .im (.lst (dI ns)), .un, .un, .im (.lst (dI (nI (ends ns)))), .un, .un, .un, .un]) ?_ ?_
  · walk_at "fl"
    refine w_ifP (ends ns ≠ []) ?_ (fun h => ?_) fun h => ?_
    · walk_at "fl"
      refine rd_neE (eqe_lst eqe_int) (by decide) (nI (ends ns)) [] ⟨_, rfl, rfl, by simp [nI]⟩
    · have e := (List.dropLast_concat_getLast h).symm
      obtain ⟨hm, ht⟩ := el _ _ e
      walk_at "fl"
      rw [e, nI_app]
      refine rd_ixL at_last ?_
      walk_at "fl"
      rw [dI_cut, show (((ends ns).getLast h : Nat) : Int) + 1 = (((ends ns).getLast h + 1 : Nat) : Int) from rfl, cut_to, ← ht]
      walk_at "fl"
      rw [← nI_app, ← e]
      rfl
    · have h' : ends ns = [] := Decidable.not_not.mp h
      walk_at "fl"
      rw [et h']
      exact ⟨rfl, rfl⟩
  rintro _ _ ⟨rfl, rfl⟩
  refine rd_neE (eqe_tup eqe_int) (by decide) (trim ns) (trim ns) ⟨_, rfl, nF rfl ?_⟩
  walk_at "fl"
  refine ⟨_, ns, rfl, ⟨by omega, .inr rfl⟩, ?_⟩
  walk_at "fl"
  rw [show [Dt.int 0] = dI [0] from rfl]
  refine rd_addL (small (by rw [dI_len, dI_len]; simp; omega)) ?_
  rw [dI_app]
  walk_at "fl"
  refine rd_ixL (at_dI' (by omega) (by rw [List.length_append, List.length_singleton]; omega)) ?_
  walk_at "fl"
  rw [show Int.toNat 0 = 0 from rfl, ra_snoc0, headD_ra]
  refine nF rfl ?_
  walk_at "fl"
  exact s_wipe [5, 15, 18] rfl (fin _ ⟨d0, id, rfl⟩)

end
end TW
namespace TW
open PySem L2 Evl DL
local macro_rules | `(tactic| walk_at "d1") => `(tactic| with_reducible first
  | refine s_seq ?_
  | refine iteT ?_
  | refine iteF ?_
  | refine s_asg ?_
  | refine g_nm rfl rfl ?_
  | refine s_if ?_
  | refine s_ret ?_
  | refine s_next ?_
  | refine s_retN ?_
  | refine s_drop ?_
  | refine s_brk ?_
  | refine s_cont ?_
  | refine s_aug1 rfl rfl ?_
  | refine s_fldO ?_
  | refine Exists.intro _ (Exists.intro _ (Exists.intro _ (And.intro rfl (And.intro (by assumption) (And.intro (by assumption) (And.intro (by decide) ?_))))))
  | refine w_var rfl ?_
  | refine w_int ?_
  | refine w_str ?_
  | refine w_bl ?_
  | refine w_non ?_
  | refine t_cmp ?_
  | refine rd_ixO rfl rfl ?_
  | refine w_op ?_
  | refine w_un ?_
  | refine w_chain ?_
  | refine t_test ?_
  | refine t_B ?_
  | refine t_not ?_
  | refine t_and ?_
  | refine t_or ?_
  | refine w_andV ?_
  | refine w_orV ?_
  | refine w_notV ?_
  | refine w_if ?_
  | refine w_tup ?_
  | refine w_lst ?_
  | refine w_isiInt ?_
  | refine w_rev ?_
  | refine w_cb ?_
  | refine w_sl ?_
  | refine w_join ?_
  | refine t_yes ?_
  | refine w_m1 ?_
  | refine rj_find ?_
  | refine rj_count ?_
  | refine w_joined ?_
  | refine a_nil ?_
  | refine a_cons ?_
  | refine o_none ?_
  | refine o_some ?_
  | refine g_tup rfl ?_
  | refine g_setO rfl rfl ?_
  | refine gs_nil ?_
  | refine gs_cons ?_
  | refine j_nil ?_
  | refine j_cons ?_
  | refine rd_lt ?_
  | refine rd_le ?_
  | refine rd_gt ?_
  | refine rd_ge ?_
  | refine rd_sub ?_
  | refine rd_mod (by first | decide | assumption) ?_
  | refine rd_div (by first | decide | (constructor <;> omega)) ?_
  | refine rd_mulR (by decide) ?_
  | refine rd_powC (by decide) ?_
  | refine rd_addI ?_
  | refine rd_eqI ?_
  | refine rd_neI ?_
  | refine rd_eqS ?_
  | refine rd_neS ?_
  | refine rd_eqB ?_
  | refine rd_neB ?_
  | refine rd_ipa ?_
  | refine rd_ips ?_
  | refine ru_neg ?_
  | refine rx_lenT ?_
  | refine rx_lenL ?_
  | refine rx_abs ?_
  | refine rc_intI ?_
  | refine rc_intB ?_
  | refine rc_tupT ?_
  | refine rc_tupL ?_
  | refine rc_tupR ?_
  | refine rs_tup ?_
  | refine rs_lst ?_
  | refine w_fldO rfl (by assumption) (by assumption) rfl ?_
  | refine w_fldV rfl (by assumption) (by assumption) rfl ?_
  | refine w_fld ?_
  | refine Exists.intro _ (And.intro rfl ?_)
  | refine Exists.intro _ (Exists.intro _ (Exists.intro _ (Exists.intro _ (And.intro rfl (And.intro (by assumption) (And.intro (by assumption) (And.intro (by rfl) ?_)))))))
  | refine w_callI (dds := []) (fun _ => .nil) (Exists.intro _ rfl) ?_
  | refine w_callI0 (dds := []) (fun _ => .nil) (Exists.intro _ rfl) ?_
  | refine w_call (dds := []) (fun _ => .nil) ?_
  | refine w_call0 (dds := []) (fun _ => .nil) ?_
  | refine w_make (dds := []) (fun _ => .nil) ?_
  | refine w_make0 (dds := []) (fun _ => .nil) ?_
  | refine w_meth (dds := []) (fun _ => .nil) ?_
  | refine w_meth0 (dds := []) (fun _ => .nil) ?_
  | refine And.intro (small (by simp only [List.length_cons, List.length_nil]; omega)) ?_
  | refine Exists.intro _ (Exists.intro _ (And.intro rfl (And.intro (by decide) ?_)))
  | refine Or.inl (Exists.intro _ (And.intro rfl ?_))
  | refine Or.inr (Exists.intro _ (And.intro rfl ?_))
  | refine And.intro rfl ?_)
local macro_rules | `(tactic| walk_at "dl") => `(tactic| repeat (first | walk_at "d1" | (dsimp only [onx, rets, lpe, rets1, List.cons_append, List.nil_append])))

local macro_rules | `(tactic| walk_at "n1") => `(tactic| with_reducible first
  | refine s_seq ?_
  | refine iteT ?_
  | refine iteF ?_
  | refine s_asg ?_
  | refine g_nm rfl rfl ?_
  | refine s_ret ?_
  | refine s_next ?_
  | refine s_retN ?_
  | refine s_drop ?_
  | refine s_brk ?_
  | refine s_cont ?_
  | refine s_aug1 rfl rfl ?_
  | refine s_fldO ?_
  | refine Exists.intro _ (Exists.intro _ (Exists.intro _ (And.intro rfl (And.intro (by assumption) (And.intro (by assumption) (And.intro (by decide) ?_))))))
  | refine w_var rfl ?_
  | refine w_int ?_
  | refine w_str ?_
  | refine w_bl ?_
  | refine w_non ?_
  | refine t_cmp ?_
  | refine rd_ixO rfl rfl ?_
  | refine w_op ?_
  | refine w_un ?_
  | refine w_chain ?_
  | refine t_test ?_
  | refine t_B ?_
  | refine t_not ?_
  | refine t_and ?_
  | refine t_or ?_
  | refine w_andV ?_
  | refine w_orV ?_
  | refine w_notV ?_
  | refine w_tup ?_
  | refine w_lst ?_
  | refine w_isiInt ?_
  | refine w_rev ?_
  | refine w_cb ?_
  | refine w_sl ?_
  | refine w_join ?_
  | refine t_yes ?_
  | refine w_m1 ?_
  | refine rj_find ?_
  | refine rj_count ?_
  | refine w_joined ?_
  | refine a_nil ?_
  | refine a_cons ?_
  | refine o_none ?_
  | refine o_some ?_
  | refine g_tup rfl ?_
  | refine g_setO rfl rfl ?_
  | refine gs_nil ?_
  | refine gs_cons ?_
  | refine j_nil ?_
  | refine j_cons ?_
  | refine rd_lt ?_
  | refine rd_le ?_
  | refine rd_gt ?_
  | refine rd_ge ?_
  | refine rd_sub ?_
  | refine rd_mod (by first | decide | assumption) ?_
  | refine rd_div (by first | decide | (constructor <;> omega)) ?_
  | refine rd_mulR (by decide) ?_
  | refine rd_powC (by decide) ?_
  | refine rd_addI ?_
  | refine rd_eqI ?_
  | refine rd_neI ?_
  | refine rd_eqS ?_
  | refine rd_neS ?_
  | refine rd_eqB ?_
  | refine rd_neB ?_
  | refine rd_ipa ?_
  | refine rd_ips ?_
  | refine ru_neg ?_
  | refine rx_lenT ?_
  | refine rx_lenL ?_
  | refine rx_abs ?_
  | refine rc_intI ?_
  | refine rc_intB ?_
  | refine rc_tupT ?_
  | refine rc_tupL ?_
  | refine rc_tupR ?_
  | refine rs_tup ?_
  | refine rs_lst ?_
  | refine w_fldO rfl (by assumption) (by assumption) rfl ?_
  | refine w_fldV rfl (by assumption) (by assumption) rfl ?_
  | refine w_fld ?_
  | refine Exists.intro _ (And.intro rfl ?_)
  | refine Exists.intro _ (Exists.intro _ (Exists.intro _ (Exists.intro _ (And.intro rfl (And.intro (by assumption) (And.intro (by assumption) (And.intro (by rfl) ?_)))))))
  | refine w_callI (dds := []) (fun _ => .nil) (Exists.intro _ rfl) ?_
  | refine w_callI0 (dds := []) (fun _ => .nil) (Exists.intro _ rfl) ?_
  | refine w_call (dds := []) (fun _ => .nil) ?_
  | refine w_call0 (dds := []) (fun _ => .nil) ?_
  | refine w_make (dds := []) (fun _ => .nil) ?_
  | refine w_make0 (dds := []) (fun _ => .nil) ?_
  | refine w_meth (dds := []) (fun _ => .nil) ?_
  | refine w_meth0 (dds := []) (fun _ => .nil) ?_
  | refine And.intro (small (by simp only [List.length_cons, List.length_nil]; omega)) ?_
  | refine Exists.intro _ (Exists.intro _ (And.intro rfl (And.intro (by decide) ?_)))
  | refine Or.inl (Exists.intro _ (And.intro rfl ?_))
  | refine Or.inr (Exists.intro _ (And.intro rfl ?_))
  | refine And.intro rfl ?_)
local macro_rules | `(tactic| walk_at "nl") => `(tactic| repeat (first | walk_at "n1" | (dsimp only [onx, rets, lpe, rets1, List.cons_append, List.nil_append])))

local macro_rules | `(tactic| walk_at "f1") => `(tactic| with_reducible first
  | refine s_seq ?_
  | refine iteT ?_
  | refine iteF ?_
  | refine s_asg ?_
  | refine g_nm rfl rfl ?_
  | refine s_ifF ?_
  | refine s_ret ?_
  | refine s_next ?_
  | refine s_retN ?_
  | refine s_drop ?_
  | refine s_brk ?_
  | refine s_cont ?_
  | refine s_aug1 rfl rfl ?_
  | refine s_fldO ?_
  | refine Exists.intro _ (Exists.intro _ (Exists.intro _ (And.intro rfl (And.intro (by assumption) (And.intro (by assumption) (And.intro (by decide) ?_))))))
  | refine w_var rfl ?_
  | refine w_int ?_
  | refine w_str ?_
  | refine w_bl ?_
  | refine w_non ?_
  | refine t_cmp ?_
  | refine rd_ixO rfl rfl ?_
  | refine w_op ?_
  | refine w_un ?_
  | refine w_chain ?_
  | refine t_test ?_
  | refine t_B ?_
  | refine t_not ?_
  | refine t_and ?_
  | refine t_orF ?_
  | refine w_andV ?_
  | refine w_orV ?_
  | refine w_notV ?_
  | refine w_tup ?_
  | refine w_lst ?_
  | refine w_isiInt ?_
  | refine w_rev ?_
  | refine w_cb ?_
  | refine w_sl ?_
  | refine w_join ?_
  | refine t_yes ?_
  | refine w_m1 ?_
  | refine rj_find ?_
  | refine rj_count ?_
  | refine w_joined ?_
  | refine a_nil ?_
  | refine a_cons ?_
  | refine o_none ?_
  | refine o_some ?_
  | refine g_tup rfl ?_
  | refine g_setO rfl rfl ?_
  | refine gs_nil ?_
  | refine gs_cons ?_
  | refine j_nil ?_
  | refine j_cons ?_
  | refine rd_lt ?_
  | refine rd_le ?_
  | refine rd_gt ?_
  | refine rd_ge ?_
  | refine rd_sub ?_
  | refine rd_mod (by first | decide | assumption) ?_
  | refine rd_div (by first | decide | (constructor <;> omega)) ?_
  | refine rd_mulR (by decide) ?_
  | refine rd_powC (by decide) ?_
  | refine rd_addI ?_
  | refine rd_eqI ?_
  | refine rd_neI ?_
  | refine rd_eqS ?_
  | refine rd_neS ?_
  | refine rd_eqB ?_
  | refine rd_neB ?_
  | refine rd_ipa ?_
  | refine rd_ips ?_
  | refine ru_neg ?_
  | refine rx_lenT ?_
  | refine rx_lenL ?_
  | refine rx_abs ?_
  | refine rc_intI ?_
  | refine rc_intB ?_
  | refine rc_tupT ?_
  | refine rc_tupL ?_
  | refine rc_tupR ?_
  | refine rs_tup ?_
  | refine rs_lst ?_
  | refine w_fldO rfl (by assumption) (by assumption) rfl ?_
  | refine w_fldV rfl (by assumption) (by assumption) rfl ?_
  | refine w_fld ?_
  | refine Exists.intro _ (And.intro rfl ?_)
  | refine Exists.intro _ (Exists.intro _ (Exists.intro _ (Exists.intro _ (And.intro rfl (And.intro (by assumption) (And.intro (by assumption) (And.intro (by rfl) ?_)))))))
  | refine w_callI (dds := []) (fun _ => .nil) (Exists.intro _ rfl) ?_
  | refine w_callI0 (dds := []) (fun _ => .nil) (Exists.intro _ rfl) ?_
  | refine w_call (dds := []) (fun _ => .nil) ?_
  | refine w_call0 (dds := []) (fun _ => .nil) ?_
  | refine w_make (dds := []) (fun _ => .nil) ?_
  | refine w_make0 (dds := []) (fun _ => .nil) ?_
  | refine w_meth (dds := []) (fun _ => .nil) ?_
  | refine w_meth0 (dds := []) (fun _ => .nil) ?_
  | refine And.intro (small (by simp only [List.length_cons, List.length_nil]; omega)) ?_
  | refine Exists.intro _ (Exists.intro _ (And.intro rfl (And.intro (by decide) ?_)))
  | refine Or.inl (Exists.intro _ (And.intro rfl ?_))
  | refine Or.inr (Exists.intro _ (And.intro rfl ?_))
  | refine And.intro rfl ?_)
local macro_rules | `(tactic| walk_at "fl") => `(tactic| repeat (first | walk_at "f1" | (dsimp only [onx, rets, lpe, rets1, List.cons_append, List.nil_append])))

theorem signs_of {p : Nat → Prop} : ∀ {acc : List Dt}, (∀ e ∈ acc, ∃ n : Nat, e = .str ⟨#[n]⟩ ∧ p n) → ∃ L : List Nat, acc = (L.map fun n => (⟨#[n]⟩ : Str)).map Dt.str ∧ L.length = acc.length ∧ ∀ n ∈ L, p n
  | [], _ => ⟨[], rfl, rfl, by simp⟩
  | e :: r, h => by
    obtain ⟨x, rfl, px⟩ := h e (by simp)
    obtain ⟨ns, e1, e2, e3⟩ := signs_of (acc := r) fun y hy => h y (List.mem_cons_of_mem _ hy)
    refine ⟨x :: ns, by rw [e1]; rfl, by simp [e2], fun y hy => ?_⟩
    rcases List.mem_cons.mp hy with q | q
    · rw [q]; exact px
    · exact e3 y q
theorem tl_signs (L : List Nat) : TL.tl (Txt.join "" (L.map fun n => (⟨#[n]⟩ : Str))) = L := by
  rw [tl_join0 rfl, List.map_map]
  induction L with
  | nil => rfl
  | cons x r ih =>
    rw [List.map_cons, List.flatten_cons, ih]
    rfl
theorem sum_signs (L : List Nat) : ((L.map fun n => (⟨#[n]⟩ : Str)).map (·.length)).sum = L.length := by
  induction L with
  | nil => rfl
  | cons x r ih =>
    simp only [List.map_cons, List.sum_cons, List.length_cons]
    rw [ih]
    show 1 + r.length = _
    omega
section
variable {P : Program} {w : World} {K : PySem.W.Frag} {Tb : TbT} {mg : Str → Option Value} {base : Heap}
theorem seg_10 {f c : Addr} {C X Pt : Addr} {lc : List (Addr × Str)} (T : Tx K mg) (NoEq_Tape : NoEq K C) (Fd_law_roll : Fd P w K mg base "_law_roll" P_law_roll [] 1 (spI K Tb pm_roll)) (Fd_read_tape : Fd P w K mg base "read_tape" P_read_tape [] 4 (spD K Tb (pm_read_tape C X))) (TB_law : GxR.TabB base mg c Pt) (hPt : (Pt, ("law" : Str) ++ ".<locals>." ++ "<lambda>") ∈ Tb.l) (hPl : ∀ x ∈ Tb.l, x.1 = Pt → x.2 = ("law" : Str) ++ ".<locals>." ++ "<lambda>") (hTg : Tb.g = []) (Tld_told : Tld K mg "_law_told" "what" [] s_law_told toldH0 (toldH.drop 1) lc) (tX : ∀ Q : Str → Prop, Q "tape" → toldBy K Q lc (.ref X)) {A : Around} {outer : List Env} {s : Shared} {H : Hp} {E : XK} (hr : Room 6 (A.deeper (PyProof.Rows.envOfC "law" (defScope s_law) s.heap.objs.size f (.ref c)))) {tr : TS} (h : PSs (cxOf (L2.CX P w) P w K mg base N_law "law" (defScope s_law) f (.ref c) A outer s H E) (dayB.drop 24) tr) :
    ∃ t, PSs (cxOf (L2.CX P w) P w K mg base N_law "law" (defScope s_law) f (.ref c) A outer s H E) (dayB.drop 20) t ∧ ∀ Γ Ψ, (∃ (d : Dt), IsDice d ∧ Γ = [.un, .ow d, .un, .un, .un, .un, .un, .un, .un, .un, .un, .un, .un, .un, .un, .un, .un, .un, .un, .un, .un, .un, .un]) → (∀ Γ', (∃ (d : Dt), IsDice d ∧ Γ' = [.un, .ow d, .un, .un, .un, .un, .un, .un, .un, .un, .un, .un, .un, .un, .un, .un, .un, .un, .un, .un, .un, .un, .un]) → Ws ⟨K, Tb, [], E, fun _ => False, True⟩ tr Γ' Ψ) → Ws ⟨K, Tb, [], E, fun _ => False, True⟩ t Γ Ψ := by
  have tE : Takes (cxOf (L2.CX P w) P w K mg base N_law "law" (defScope s_law) f (.ref c) A outer s H E) (fun cls d _ H => E cls d H) := takes_of rfl rfl rfl rfl
  have pE : Passes (L2.CX P w) (cxOf (L2.CX P w) P w K mg base N_law "law" (defScope s_law) f (.ref c) A outer s H E) E := passes_call tE fun _ _ _ _ h => h
  refine ⟨_, (pss_cons (ps_set (i := 19) sc_law.nd rfl (by first | exact Or.inl rfl | exact Or.inr rfl) (pe_m1 PySem.F.slot_str_join PySem.F.type_str_join (mt_joinK K rfl) pe_str (pe_lc (own := [("k", 5)]) rfl sc_law.nd (pi_range1 (by rfl) T.range (pa_cons (pe_fn 0 Fd_law_roll (by first | decide | simp) (hr.mono (by decide)) (by rfl) pE (pa_cons (pv 1) (pa_cons pe_int pa_nil))) pa_nil)) (blkOk_by (N := N_law) (sc := defScope s_law) (by decide +kernel)) (fun _ _ _ _ _ => (pg_name (i := 5) sc_law.nd rfl (by first | exact Or.inl rfl | exact Or.inr rfl))) (fun _ _ _ _ _ => pts_nil) (fun _ _ _ _ _ => (pe_ix (ix_seqK K rfl) pe_str (pe_fn 0 Fd_law_roll (by first | decide | simp) (hr.mono (by decide)) (by rfl) passL (pa_cons (pv 1) (pa_cons pe_int pa_nil))) (fun _ _ => rfl))))))
      (pss_cons (ps_set (i := 20) sc_law.nd rfl (by first | exact Or.inl rfl | exact Or.inr rfl) (pe_and (pe_cmpR (op_eqK K rfl hr.units) (pe_m1 PySem.F.slot_str_count PySem.F.type_str_count mt_countX (pv 19) pe_str) pe_int (nomark _)) (pe_and (pe_cmpR (op_eqK K rfl hr.units) (pe_m1 PySem.F.slot_str_count PySem.F.type_str_count mt_countX (pv 19) pe_str) pe_int (nomark _)) (pe_one (pe_cmpR op_notinX pe_str (pv 19) (by rfl))))))
      (pss_cons (ps_set (i := 20) sc_law.nd rfl (by first | exact Or.inl rfl | exact Or.inr rfl) (pe_and (pv 20) (pe_one (pe_cmpR (op_eqK K rfl hr.units) (pe_m1 PySem.F.slot_str_find PySem.F.type_str_find mt_findX (pv 19) pe_str) (pe_op (op_addK K rfl) (pe_m1 PySem.F.slot_str_find PySem.F.type_str_find mt_findX (pv 19) pe_str) pe_int) (nomark _)))))
      (pss_cons (ps_if (pt_cmpR (op_neK K rfl hr.units) (pe_cmpR (op_neZ K rfl hr.units NoEq_Tape) (pe_tld (k := 4) K rfl (("law" : Str) ++ ".<locals>.") _ rfl rfl Tld_told (by rfl) TB_law rfl hPt hPl (hr.mono (by decide)) (LamX.lamS_by (sc := defScope s_law) (by decide +kernel)) rfl (fun _ _ _ _ _ => rfl) (fun _ _ _ _ E f c hr => (pe_fn 0 Fd_read_tape (by first | decide | simp) (hr.mono (by decide)) (by rfl) (passes_call (takes_of rfl rfl rfl rfl) fun _ _ _ _ h => h) (pa_cons (pv 19) pa_nil)))) pe_str (nomark _)) (pv 20) (nomark _)) (pss_one (ps_ret pe_bl)) pss_nil)
      h)))), ?_⟩
  try simp only [cxOf_K]
  clear hr tE pE h

  rintro Γ Ψ ⟨d0, id, rfl⟩ fin
  walk_at "fl"
  refine w_lcN rfl (tgt_name (by simp)) (fun e => ∃ n : Nat, e = .str ⟨#[n]⟩ ∧ (n = 48 ∨ n = 49 ∨ n = 91 ∨ n = 93 ∨ n = 120)) (fun Γ' => ∃ d, IsDice d ∧ Γ' = [.un, .ow d, .un, .un, .un, .un, .un, .un, .un, .un, .un, .un, .un, .un, .un, .un, .un, .un, .un, .un, .un, .un, .un]) (i_rng1 ?_)
  walk_at "fl"
  refine use_roll id (by omega) (by omega) fun n1 d1 a1 b1 j1 => ?_
  walk_at "fl"
  refine ⟨by omega, by omega, small (by rw [rngD_len]; omega), ⟨d1, j1, rfl⟩, ?_, ?_⟩
  · rintro i x Γ' ed ⟨d2, j2, rfl⟩
    obtain ⟨x, rfl⟩ := rng_at ed
    walk_at "nl"
    refine use_roll j2 (by omega) (by omega) fun r d3 a3 b3 j3 => ?_
    have hr : r = 0 ∨ r = 1 ∨ r = 2 ∨ r = 3 ∨ r = 4 := by omega
    rcases hr with rfl | rfl | rfl | rfl | rfl
    · exact rd_ixS (c := 48) (by decide +kernel) (by decide +kernel) ⟨⟨_, rfl, by decide⟩, d3, j3, rfl⟩
    · exact rd_ixS (c := 49) (by decide +kernel) (by decide +kernel) ⟨⟨_, rfl, by decide⟩, d3, j3, rfl⟩
    · exact rd_ixS (c := 91) (by decide +kernel) (by decide +kernel) ⟨⟨_, rfl, by decide⟩, d3, j3, rfl⟩
    · exact rd_ixS (c := 93) (by decide +kernel) (by decide +kernel) ⟨⟨_, rfl, by decide⟩, d3, j3, rfl⟩
    · exact rd_ixS (c := 120) (by decide +kernel) (by decide +kernel) ⟨⟨_, rfl, by decide⟩, d3, j3, rfl⟩
  rintro acc Γ' hl hp ⟨d2, j2, rfl⟩
  obtain ⟨L, rfl, l1, l2⟩ := signs_of hp
  rw [rngD_len] at hl
  have nl : L.length ≤ 5 := by omega
  refine ⟨_, rfl, by rw [sum_signs]; show _ + _ * 0 ≤ _; omega, ?_⟩
  generalize es : Txt.join (Str.ofString "") (L.map fun n => (⟨#[n]⟩ : Str)) = s0
  have ts : TL.tl s0 = L := by rw [← es]; exact tl_signs L
  have ab : Abc (TL.tl s0) := by rw [ts]; exact l2
  have sl : s0.length ≤ 5 := by rw [TL.len_tl, ts]; exact nl
  have y1 : TL.tl (Str.ofString "[") = [91] := by decide +kernel
  have y2 : TL.tl (Str.ofString "]") = [93] := by decide +kernel
  have gi := good_iff y1 y2 ab
  refine g_nm rfl rfl (s_seq (s_asg ?_))
  refine Wp.mono (Φ := fun d Γ1 => d = .bl (decide (Txt.count s0 (Str.ofString "[") = 1 ∧ Txt.count s0 (Str.ofString "]") = 1 ∧ 120 ∉ TL.tl s0)) ∧ Γ1 = [.un, .ow d2, .un, .un, .un, .un, .un, .un, .un, .un, .un, .un, .un, .un, .un, .un, .un, .un, .un, .im (.str s0), .un, .un, .un]) ?_ ?_
  · walk_at "nl"
    refine ite_dec (fun h1 => ?_) fun h1 => ?_
    · walk_at "nl"
      refine ite_dec (fun h2 => ?_) fun h2 => ?_
      · walk_at "nl"
        refine rd_notinC (k := 120) (by decide +kernel) ?_
        exact ⟨bl_eq (by simp [h1, h2]), rfl⟩
      · exact ⟨bl_eq (by simp [h2]), rfl⟩
    · exact ⟨bl_eq (by simp [h1]), rfl⟩
  rintro _ _ ⟨rfl, rfl⟩
  refine g_nm rfl rfl (s_seq (s_asg ?_))
  refine Wp.mono (Φ := fun d Γ1 => ∃ b : Bool, d = .bl b ∧ (b = true ↔ ∃ l c r, RT s0 l c r) ∧ Γ1 = [.un, .ow d2, .un, .un, .un, .un, .un, .un, .un, .un, .un, .un, .un, .un, .un, .un, .un, .un, .un, .im (.str s0), .im (.bl (decide (Txt.count s0 (Str.ofString "[") = 1 ∧ Txt.count s0 (Str.ofString "]") = 1 ∧ 120 ∉ TL.tl s0))), .un, .un]) ?_ ?_
  · walk_at "nl"
    refine ite_dec (fun h1 => ?_) fun h1 => ?_
    · walk_at "nl"
      refine ⟨?_, rfl⟩
      rw [← gi, decide_eq_true_iff]
      exact ⟨fun h => ⟨h1, h⟩, fun h => h.2⟩
    · refine ⟨_, rfl, ?_, rfl⟩
      rw [← gi]
      exact ⟨fun h => (Bool.false_ne_true h).elim, fun h => (h1 h.1).elim⟩
  rintro _ _ ⟨b, rfl, hb, rfl⟩
  walk_at "fl"
  obtain ⟨z1, z2, z3, rfl⟩ := j2
  refine w_told True.intro hTg rfl fun E => ?_
  walk_at "fl"
  refine ⟨s0, rfl, by omega, fun l c r h => ?_, fun h => tX _ ?_⟩
  · have e : b = true := hb.mpr ⟨l, c, r, h⟩
    subst e
    walk_at "fl"
    refine rd_neZi ?_
    walk_at "fl"
    exact s_wipe [19, 20] rfl (fin _ ⟨_, ⟨z1, z2, z3, rfl⟩, rfl⟩)
  · have e : b = false := by
      cases b with
      | false => rfl
      | true =>
        obtain ⟨l, c, r, q⟩ := hb.mp rfl
        exact (h l c r q).elim
    subst e
    walk_at "fl"
    refine rd_neZ (rd_neS ?_)
    rw [decide_eq_true rfl]
    walk_at "fl"
    exact s_wipe [19, 20] rfl (fin _ ⟨_, ⟨z1, z2, z3, rfl⟩, rfl⟩)

end
end TW
namespace TW
open PySem L2 Evl DL
local macro_rules | `(tactic| walk_at "d1") => `(tactic| with_reducible first
  | refine s_seq ?_
  | refine iteT ?_
  | refine iteF ?_
  | refine s_asg ?_
  | refine g_nm rfl rfl ?_
  | refine s_if ?_
  | refine s_ret ?_
  | refine s_next ?_
  | refine s_retN ?_
  | refine s_drop ?_
  | refine s_brk ?_
  | refine s_cont ?_
  | refine s_aug1 rfl rfl ?_
  | refine s_fldO ?_
  | refine Exists.intro _ (Exists.intro _ (Exists.intro _ (And.intro rfl (And.intro (by assumption) (And.intro (by assumption) (And.intro (by decide) ?_))))))
  | refine w_var rfl ?_
  | refine w_int ?_
  | refine w_str ?_
  | refine w_bl ?_
  | refine w_non ?_
  | refine t_cmp ?_
  | refine rd_ixO rfl rfl ?_
  | refine w_op ?_
  | refine w_un ?_
  | refine w_chain ?_
  | refine t_test ?_
  | refine t_B ?_
  | refine t_not ?_
  | refine t_and ?_
  | refine t_or ?_
  | refine w_andV ?_
  | refine w_orV ?_
  | refine w_notV ?_
  | refine w_if ?_
  | refine w_tup ?_
  | refine w_lst ?_
  | refine w_isiInt ?_
  | refine w_rev ?_
  | refine w_cb ?_
  | refine w_sl ?_
  | refine w_join ?_
  | refine t_yes ?_
  | refine w_m1 ?_
  | refine rj_find ?_
  | refine rj_count ?_
  | refine w_joined ?_
  | refine a_nil ?_
  | refine a_cons ?_
  | refine o_none ?_
  | refine o_some ?_
  | refine g_tup rfl ?_
  | refine g_setO rfl rfl ?_
  | refine gs_nil ?_
  | refine gs_cons ?_
  | refine j_nil ?_
  | refine j_cons ?_
  | refine rd_lt ?_
  | refine rd_le ?_
  | refine rd_gt ?_
  | refine rd_ge ?_
  | refine rd_sub ?_
  | refine rd_mod (by first | decide | assumption) ?_
  | refine rd_div (by first | decide | (constructor <;> omega)) ?_
  | refine rd_mulR (by decide) ?_
  | refine rd_powC (by decide) ?_
  | refine rd_addI ?_
  | refine rd_eqI ?_
  | refine rd_neI ?_
  | refine rd_eqS ?_
  | refine rd_neS ?_
  | refine rd_eqB ?_
  | refine rd_neB ?_
  | refine rd_ipa ?_
  | refine rd_ips ?_
  | refine ru_neg ?_
  | refine rx_lenT ?_
  | refine rx_lenL ?_
  | refine rx_abs ?_
  | refine rc_intI ?_
  | refine rc_intB ?_
  | refine rc_tupT ?_
  | refine rc_tupL ?_
  | refine rc_tupR ?_
  | refine rs_tup ?_
  | refine rs_lst ?_
  | refine w_fldO rfl (by assumption) (by assumption) rfl ?_
  | refine w_fldV rfl (by assumption) (by assumption) rfl ?_
  | refine w_fld ?_
  | refine Exists.intro _ (And.intro rfl ?_)
  | refine Exists.intro _ (Exists.intro _ (Exists.intro _ (Exists.intro _ (And.intro rfl (And.intro (by assumption) (And.intro (by assumption) (And.intro (by rfl) ?_)))))))
  | refine w_callI (dds := []) (fun _ => .nil) (Exists.intro _ rfl) ?_
  | refine w_callI0 (dds := []) (fun _ => .nil) (Exists.intro _ rfl) ?_
  | refine w_call (dds := []) (fun _ => .nil) ?_
  | refine w_call0 (dds := []) (fun _ => .nil) ?_
  | refine w_make (dds := []) (fun _ => .nil) ?_
  | refine w_make0 (dds := []) (fun _ => .nil) ?_
  | refine w_meth (dds := []) (fun _ => .nil) ?_
  | refine w_meth0 (dds := []) (fun _ => .nil) ?_
  | refine And.intro (small (by simp only [List.length_cons, List.length_nil]; omega)) ?_
  | refine Exists.intro _ (Exists.intro _ (And.intro rfl (And.intro (by decide) ?_)))
  | refine Or.inl (Exists.intro _ (And.intro rfl ?_))
  | refine Or.inr (Exists.intro _ (And.intro rfl ?_))
  | refine And.intro rfl ?_)
local macro_rules | `(tactic| walk_at "dl") => `(tactic| repeat (first | walk_at "d1" | (dsimp only [onx, rets, lpe, rets1, List.cons_append, List.nil_append])))

local macro_rules | `(tactic| walk_at "n1") => `(tactic| with_reducible first
  | refine s_seq ?_
  | refine iteT ?_
  | refine iteF ?_
  | refine s_asg ?_
  | refine g_nm rfl rfl ?_
  | refine s_ret ?_
  | refine s_next ?_
  | refine s_retN ?_
  | refine s_drop ?_
  | refine s_brk ?_
  | refine s_cont ?_
  | refine s_aug1 rfl rfl ?_
  | refine s_fldO ?_
  | refine Exists.intro _ (Exists.intro _ (Exists.intro _ (And.intro rfl (And.intro (by assumption) (And.intro (by assumption) (And.intro (by decide) ?_))))))
  | refine w_var rfl ?_
  | refine w_int ?_
  | refine w_str ?_
  | refine w_bl ?_
  | refine w_non ?_
  | refine t_cmp ?_
  | refine rd_ixO rfl rfl ?_
  | refine w_op ?_
  | refine w_un ?_
  | refine w_chain ?_
  | refine t_test ?_
  | refine t_B ?_
  | refine t_not ?_
  | refine t_and ?_
  | refine t_or ?_
  | refine w_andV ?_
  | refine w_orV ?_
  | refine w_notV ?_
  | refine w_tup ?_
  | refine w_lst ?_
  | refine w_isiInt ?_
  | refine w_rev ?_
  | refine w_cb ?_
  | refine w_sl ?_
  | refine w_join ?_
  | refine t_yes ?_
  | refine w_m1 ?_
  | refine rj_find ?_
  | refine rj_count ?_
  | refine w_joined ?_
  | refine a_nil ?_
  | refine a_cons ?_
  | refine o_none ?_
  | refine o_some ?_
  | refine g_tup rfl ?_
  | refine g_setO rfl rfl ?_
  | refine gs_nil ?_
  | refine gs_cons ?_
  | refine j_nil ?_
  | refine j_cons ?_
  | refine rd_lt ?_
  | refine rd_le ?_
  | refine rd_gt ?_
  | refine rd_ge ?_
  | refine rd_sub ?_
  | refine rd_mod (by first | decide | assumption) ?_
  | refine rd_div (by first | decide | (constructor <;> omega)) ?_
  | refine rd_mulR (by decide) ?_
  | refine rd_powC (by decide) ?_
  | refine rd_addI ?_
  | refine rd_eqI ?_
  | refine rd_neI ?_
  | refine rd_eqS ?_
  | refine rd_neS ?_
  | refine rd_eqB ?_
  | refine rd_neB ?_
  | refine rd_ipa ?_
  | refine rd_ips ?_
  | refine ru_neg ?_
  | refine rx_lenT ?_
  | refine rx_lenL ?_
  | refine rx_abs ?_
  | refine rc_intI ?_
  | refine rc_intB ?_
  | refine rc_tupT ?_
  | refine rc_tupL ?_
  | refine rc_tupR ?_
  | refine rs_tup ?_
  | refine rs_lst ?_
  | refine w_fldO rfl (by assumption) (by assumption) rfl ?_
  | refine w_fldV rfl (by assumption) (by assumption) rfl ?_
  | refine w_fld ?_
  | refine Exists.intro _ (And.intro rfl ?_)
  | refine Exists.intro _ (Exists.intro _ (Exists.intro _ (Exists.intro _ (And.intro rfl (And.intro (by assumption) (And.intro (by assumption) (And.intro (by rfl) ?_)))))))
  | refine w_callI (dds := []) (fun _ => .nil) (Exists.intro _ rfl) ?_
  | refine w_callI0 (dds := []) (fun _ => .nil) (Exists.intro _ rfl) ?_
  | refine w_call (dds := []) (fun _ => .nil) ?_
  | refine w_call0 (dds := []) (fun _ => .nil) ?_
  | refine w_make (dds := []) (fun _ => .nil) ?_
  | refine w_make0 (dds := []) (fun _ => .nil) ?_
  | refine w_meth (dds := []) (fun _ => .nil) ?_
  | refine w_meth0 (dds := []) (fun _ => .nil) ?_
  | refine And.intro (small (by simp only [List.length_cons, List.length_nil]; omega)) ?_
  | refine Exists.intro _ (Exists.intro _ (And.intro rfl (And.intro (by decide) ?_)))
  | refine Or.inl (Exists.intro _ (And.intro rfl ?_))
  | refine Or.inr (Exists.intro _ (And.intro rfl ?_))
  | refine And.intro rfl ?_)
local macro_rules | `(tactic| walk_at "nl") => `(tactic| repeat (first | walk_at "n1" | (dsimp only [onx, rets, lpe, rets1, List.cons_append, List.nil_append])))

local macro_rules | `(tactic| walk_at "f1") => `(tactic| with_reducible first
  | refine s_seq ?_
  | refine iteT ?_
  | refine iteF ?_
  | refine s_asg ?_
  | refine g_nm rfl rfl ?_
  | refine s_ifF ?_
  | refine s_ret ?_
  | refine s_next ?_
  | refine s_retN ?_
  | refine s_drop ?_
  | refine s_brk ?_
  | refine s_cont ?_
  | refine s_aug1 rfl rfl ?_
  | refine s_fldO ?_
  | refine Exists.intro _ (Exists.intro _ (Exists.intro _ (And.intro rfl (And.intro (by assumption) (And.intro (by assumption) (And.intro (by decide) ?_))))))
  | refine w_var rfl ?_
  | refine w_int ?_
  | refine w_str ?_
  | refine w_bl ?_
  | refine w_non ?_
  | refine t_cmp ?_
  | refine rd_ixO rfl rfl ?_
  | refine w_op ?_
  | refine w_un ?_
  | refine w_chain ?_
  | refine t_test ?_
  | refine t_B ?_
  | refine t_not ?_
  | refine t_and ?_
  | refine t_orF ?_
  | refine w_andV ?_
  | refine w_orV ?_
  | refine w_notV ?_
  | refine w_tup ?_
  | refine w_lst ?_
  | refine w_isiInt ?_
  | refine w_rev ?_
  | refine w_cb ?_
  | refine w_sl ?_
  | refine w_join ?_
  | refine t_yes ?_
  | refine w_m1 ?_
  | refine rj_find ?_
  | refine rj_count ?_
  | refine w_joined ?_
  | refine a_nil ?_
  | refine a_cons ?_
  | refine o_none ?_
  | refine o_some ?_
  | refine g_tup rfl ?_
  | refine g_setO rfl rfl ?_
  | refine gs_nil ?_
  | refine gs_cons ?_
  | refine j_nil ?_
  | refine j_cons ?_
  | refine rd_lt ?_
  | refine rd_le ?_
  | refine rd_gt ?_
  | refine rd_ge ?_
  | refine rd_sub ?_
  | refine rd_mod (by first | decide | assumption) ?_
  | refine rd_div (by first | decide | (constructor <;> omega)) ?_
  | refine rd_mulR (by decide) ?_
  | refine rd_powC (by decide) ?_
  | refine rd_addI ?_
  | refine rd_eqI ?_
  | refine rd_neI ?_
  | refine rd_eqS ?_
  | refine rd_neS ?_
  | refine rd_eqB ?_
  | refine rd_neB ?_
  | refine rd_ipa ?_
  | refine rd_ips ?_
  | refine ru_neg ?_
  | refine rx_lenT ?_
  | refine rx_lenL ?_
  | refine rx_abs ?_
  | refine rc_intI ?_
  | refine rc_intB ?_
  | refine rc_tupT ?_
  | refine rc_tupL ?_
  | refine rc_tupR ?_
  | refine rs_tup ?_
  | refine rs_lst ?_
  | refine w_fldO rfl (by assumption) (by assumption) rfl ?_
  | refine w_fldV rfl (by assumption) (by assumption) rfl ?_
  | refine w_fld ?_
  | refine Exists.intro _ (And.intro rfl ?_)
  | refine Exists.intro _ (Exists.intro _ (Exists.intro _ (Exists.intro _ (And.intro rfl (And.intro (by assumption) (And.intro (by assumption) (And.intro (by rfl) ?_)))))))
  | refine w_callI (dds := []) (fun _ => .nil) (Exists.intro _ rfl) ?_
  | refine w_callI0 (dds := []) (fun _ => .nil) (Exists.intro _ rfl) ?_
  | refine w_call (dds := []) (fun _ => .nil) ?_
  | refine w_call0 (dds := []) (fun _ => .nil) ?_
  | refine w_make (dds := []) (fun _ => .nil) ?_
  | refine w_make0 (dds := []) (fun _ => .nil) ?_
  | refine w_meth (dds := []) (fun _ => .nil) ?_
  | refine w_meth0 (dds := []) (fun _ => .nil) ?_
  | refine And.intro (small (by simp only [List.length_cons, List.length_nil]; omega)) ?_
  | refine Exists.intro _ (Exists.intro _ (And.intro rfl (And.intro (by decide) ?_)))
  | refine Or.inl (Exists.intro _ (And.intro rfl ?_))
  | refine Or.inr (Exists.intro _ (And.intro rfl ?_))
  | refine And.intro rfl ?_)
local macro_rules | `(tactic| walk_at "fl") => `(tactic| repeat (first | walk_at "f1" | (dsimp only [onx, rets, lpe, rets1, List.cons_append, List.nil_append])))

theorem nnd {xs : List Int} (h : xs.all (fun x => decide (0 ≤ x)) = true) : Nn xs := fun x hx => of_decide_eq_true (List.all_eq_true.mp h x hx)
def lamE (e : Expr) : Arguments × Expr × Scope := match e with
  | .Lambda p b s _ => (p, b, s)
  | e => (defArgs s_law, e, defScope s_law)
def lamOf (e : Expr) (i : Nat) : Expr := match e with
  | .List es _ => match es.getD i e with
    | .Tuple (x :: _) _ _ => x
    | x => x
  | x => x
def valOf (s : Stmt) : Expr := match s with
  | .Assign _ v _ => v
  | _ => .Constant .none 0 ⟨0, 0, 0, 0⟩
abbrev wl (i : Nat) : Expr := lamOf (valOf (lawB.getD 1 (.Pass ⟨0, 0, 0, 0⟩))) i
abbrev lq : Str := ("law" : Str) ++ ".<locals>." ++ "<lambda>"
abbrev lbOf (i : Nat) (t : XK → TE) : LB := ⟨lq, (lamE (wl i)).1, (lamE (wl i)).2.1, (lamE (wl i)).2.2, t⟩
section
variable {P : Program} {w : World} {K : PySem.W.Frag} {Tb : TbT} {mg : Str → Option Value} {base : Heap}
theorem sc_lb_0 : FnScope [] [] (lamE (wl 0)).2.2 := ⟨rfl, rfl, rfl, by decide +kernel, rfl, by decide +kernel, by decide +kernel⟩
theorem lb_0 {C X : Addr} {d1 d3 : V} (T : Tx K mg) (hdd : ∀ F, IsL K F [d1, .int 0, d3] [.tup [], .int 0, .tup []]) (Cd_Tape : Cd P w K mg base C "Tape" P_Tape_init [d1, .int 0, d3] 2 (spI K Tb (pm_Tape_init C X))) (Md_Tape_move : Md P w K mg base C "move" P_Tape_move [] 4 (spD K Tb (pm_move C X))) (Fd_told_tape : Fd P w K mg base "told_tape" P_told_tape [] 2 (spD K Tb (pm_told_tape C X))) (Fd_read_tape : Fd P w K mg base "read_tape" P_read_tape [] 4 (spD K Tb (pm_read_tape C X))) (Fd_of_word : Fd P w K mg base "of_word" P_of_word [.int 0] 4 (spD K Tb (pm_of_word C X))) : ∃ t : XK → TE, (∀ (A : Around) (outer : List Env) (s : Shared) (H : Hp) (E : XK) (f co : Addr), Room 4 (A.deeper (PyProof.Rows.envOfC lq (lamE (wl 0)).2.2 s.heap.objs.size f (.ref co))) →
    PE (cxOf (L2.CX P w) P w K mg base [] lq (lamE (wl 0)).2.2 f (.ref co) A outer s H E) (lamE (wl 0)).2.1 (t E)) ∧ ∀ (E : XK) (B : Addr → Prop) (Φ : Dt → List Sl → Prop), B X → Wp ⟨K, Tb, [], E, B, False⟩ (t E) [] Φ := by
  refine ⟨_, fun A outer s H E f co hr => (pe_cd 3 Cd_Tape (by first | decide | simp) (hr.mono (by decide)) (by rfl) (passes_call (takes_of rfl rfl rfl rfl) fun _ _ _ _ h => h) (pa_cons (pe_lst (pa_cons (pe_op op_subX pe_int pe_int) (pa_cons pe_int pa_nil))) (pa_cons pe_int (pa_cons (pe_lst pa_nil) pa_nil)))), fun E B Φ bx => ?_⟩
  try simp only [cxOf_K]
  walk_at "fl"
  refine ⟨rfl, _, _, [0 - 1, 1], 0, [], rfl, ⟨by decide, .inr rfl⟩, ⟨by decide, .inr rfl⟩, fun h => ?_, fun _ => bx⟩
  have := h (0 - 1) (by decide)
  omega
theorem sc_lb_1 : FnScope [] [] (lamE (wl 1)).2.2 := ⟨rfl, rfl, rfl, by decide +kernel, rfl, by decide +kernel, by decide +kernel⟩
theorem lb_1 {C X : Addr} {d1 d3 : V} (T : Tx K mg) (hdd : ∀ F, IsL K F [d1, .int 0, d3] [.tup [], .int 0, .tup []]) (Cd_Tape : Cd P w K mg base C "Tape" P_Tape_init [d1, .int 0, d3] 2 (spI K Tb (pm_Tape_init C X))) (Md_Tape_move : Md P w K mg base C "move" P_Tape_move [] 4 (spD K Tb (pm_move C X))) (Fd_told_tape : Fd P w K mg base "told_tape" P_told_tape [] 2 (spD K Tb (pm_told_tape C X))) (Fd_read_tape : Fd P w K mg base "read_tape" P_read_tape [] 4 (spD K Tb (pm_read_tape C X))) (Fd_of_word : Fd P w K mg base "of_word" P_of_word [.int 0] 4 (spD K Tb (pm_of_word C X))) : ∃ t : XK → TE, (∀ (A : Around) (outer : List Env) (s : Shared) (H : Hp) (E : XK) (f co : Addr), Room 4 (A.deeper (PyProof.Rows.envOfC lq (lamE (wl 1)).2.2 s.heap.objs.size f (.ref co))) →
    PE (cxOf (L2.CX P w) P w K mg base [] lq (lamE (wl 1)).2.2 f (.ref co) A outer s H E) (lamE (wl 1)).2.1 (t E)) ∧ ∀ (E : XK) (B : Addr → Prop) (Φ : Dt → List Sl → Prop), B X → Wp ⟨K, Tb, [], E, B, False⟩ (t E) [] Φ := by
  refine ⟨_, fun A outer s H E f co hr => (pe_cd 3 Cd_Tape (by first | decide | simp) (hr.mono (by decide)) (by rfl) (passes_call (takes_of rfl rfl rfl rfl) fun _ _ _ _ h => h) (pa_cons (pe_lst pa_nil) (pa_cons (pe_op op_subX pe_int pe_int) (pa_cons (pe_lst pa_nil) pa_nil)))), fun E B Φ bx => ?_⟩
  try simp only [cxOf_K]
  walk_at "fl"
  refine ⟨rfl, _, _, [], 0 - 1, [], rfl, ⟨by decide, .inr rfl⟩, ⟨by decide, .inr rfl⟩, fun h => ?_, fun _ => bx⟩
  have := h (0 - 1) (by decide)
  omega
theorem sc_lb_2 : FnScope [] [] (lamE (wl 2)).2.2 := ⟨rfl, rfl, rfl, by decide +kernel, rfl, by decide +kernel, by decide +kernel⟩
theorem lb_2 {C X : Addr} {d1 d3 : V} (T : Tx K mg) (hdd : ∀ F, IsL K F [d1, .int 0, d3] [.tup [], .int 0, .tup []]) (Cd_Tape : Cd P w K mg base C "Tape" P_Tape_init [d1, .int 0, d3] 2 (spI K Tb (pm_Tape_init C X))) (Md_Tape_move : Md P w K mg base C "move" P_Tape_move [] 4 (spD K Tb (pm_move C X))) (Fd_told_tape : Fd P w K mg base "told_tape" P_told_tape [] 2 (spD K Tb (pm_told_tape C X))) (Fd_read_tape : Fd P w K mg base "read_tape" P_read_tape [] 4 (spD K Tb (pm_read_tape C X))) (Fd_of_word : Fd P w K mg base "of_word" P_of_word [.int 0] 4 (spD K Tb (pm_of_word C X))) : ∃ t : XK → TE, (∀ (A : Around) (outer : List Env) (s : Shared) (H : Hp) (E : XK) (f co : Addr), Room 4 (A.deeper (PyProof.Rows.envOfC lq (lamE (wl 2)).2.2 s.heap.objs.size f (.ref co))) →
    PE (cxOf (L2.CX P w) P w K mg base [] lq (lamE (wl 2)).2.2 f (.ref co) A outer s H E) (lamE (wl 2)).2.1 (t E)) ∧ ∀ (E : XK) (B : Addr → Prop) (Φ : Dt → List Sl → Prop), B X → Wp ⟨K, Tb, [], E, B, False⟩ (t E) [] Φ := by
  refine ⟨_, fun A outer s H E f co hr => (pe_md 0 Md_Tape_move (by first | decide | simp) (pe_cd0 Cd_Tape (hr.mono (by decide)) (by rfl) (passes_call (takes_of rfl rfl rfl rfl) fun _ _ _ _ h => h)) (hr.mono (by decide)) (passes_call (takes_of rfl rfl rfl rfl) fun _ _ _ _ h => h) (pa_cons pe_int pa_nil)), fun E B Φ bx => ?_⟩
  try simp only [cxOf_K]
  walk_at "fl"
  refine w_make (dds := [.tup [], .int 0, .tup []]) hdd (a_nil ?_)
  refine ⟨rfl, _, _, [], 0, [], rfl, ⟨by decide, .inl rfl⟩, ⟨by decide, .inl rfl⟩, fun _ => ⟨rfl, _, _, rfl, _, _, rfl, by decide, ?_⟩, fun h => (h (nnd (by decide))).elim⟩
  walk_at "fl"
  exact ⟨Tp.mk' [] 0 [], 2, rfl, by decide, by decide, Tp.g_mk (nnd (by decide)) (by decide) (nnd (by decide)), fun _ h => absurd h (by decide), fun _ => bx⟩
theorem sc_lb_3 : FnScope [] [] (lamE (wl 3)).2.2 := ⟨rfl, rfl, rfl, by decide +kernel, rfl, by decide +kernel, by decide +kernel⟩
theorem lb_3 {C X : Addr} {d1 d3 : V} (T : Tx K mg) (hdd : ∀ F, IsL K F [d1, .int 0, d3] [.tup [], .int 0, .tup []]) (Cd_Tape : Cd P w K mg base C "Tape" P_Tape_init [d1, .int 0, d3] 2 (spI K Tb (pm_Tape_init C X))) (Md_Tape_move : Md P w K mg base C "move" P_Tape_move [] 4 (spD K Tb (pm_move C X))) (Fd_told_tape : Fd P w K mg base "told_tape" P_told_tape [] 2 (spD K Tb (pm_told_tape C X))) (Fd_read_tape : Fd P w K mg base "read_tape" P_read_tape [] 4 (spD K Tb (pm_read_tape C X))) (Fd_of_word : Fd P w K mg base "of_word" P_of_word [.int 0] 4 (spD K Tb (pm_of_word C X))) : ∃ t : XK → TE, (∀ (A : Around) (outer : List Env) (s : Shared) (H : Hp) (E : XK) (f co : Addr), Room 4 (A.deeper (PyProof.Rows.envOfC lq (lamE (wl 3)).2.2 s.heap.objs.size f (.ref co))) →
    PE (cxOf (L2.CX P w) P w K mg base [] lq (lamE (wl 3)).2.2 f (.ref co) A outer s H E) (lamE (wl 3)).2.1 (t E)) ∧ ∀ (E : XK) (B : Addr → Prop) (Φ : Dt → List Sl → Prop), B X → Wp ⟨K, Tb, [], E, B, False⟩ (t E) [] Φ := by
  refine ⟨_, fun A outer s H E f co hr => (pe_fn 0 Fd_told_tape (by first | decide | simp) (hr.mono (by decide)) (by rfl) (passes_call (takes_of rfl rfl rfl rfl) fun _ _ _ _ h => h) (pa_cons (pe_cd 3 Cd_Tape (by first | decide | simp) (hr.mono (by decide)) (by rfl) (passes_call (takes_of rfl rfl rfl rfl) fun _ _ _ _ h => h) (pa_cons (pe_lst (pa_cons pe_int pa_nil)) (pa_cons pe_int (pa_cons (pe_lst pa_nil) pa_nil)))) pa_nil)), fun E B Φ bx => ?_⟩
  try simp only [cxOf_K]
  walk_at "fl"
  refine ⟨rfl, _, _, [10], 0, [], rfl, ⟨by decide, .inr rfl⟩, ⟨by decide, .inr rfl⟩, fun _ => ⟨rfl, _, _, rfl, ?_⟩, fun h => (h (nnd (by decide))).elim⟩
  walk_at "fl"
  exact ⟨Tp.mk' [10] 0 [], rfl, ⟨by decide, by decide⟩, Tp.g_mk (nnd (by decide)) (by decide) (nnd (by decide)), fun h => absurd (h 10 (by decide)) (by decide), fun _ => bx⟩
theorem sc_lb_4 : FnScope [] [] (lamE (wl 4)).2.2 := ⟨rfl, rfl, rfl, by decide +kernel, rfl, by decide +kernel, by decide +kernel⟩
theorem lb_4 {C X : Addr} {d1 d3 : V} (T : Tx K mg) (hdd : ∀ F, IsL K F [d1, .int 0, d3] [.tup [], .int 0, .tup []]) (Cd_Tape : Cd P w K mg base C "Tape" P_Tape_init [d1, .int 0, d3] 2 (spI K Tb (pm_Tape_init C X))) (Md_Tape_move : Md P w K mg base C "move" P_Tape_move [] 4 (spD K Tb (pm_move C X))) (Fd_told_tape : Fd P w K mg base "told_tape" P_told_tape [] 2 (spD K Tb (pm_told_tape C X))) (Fd_read_tape : Fd P w K mg base "read_tape" P_read_tape [] 4 (spD K Tb (pm_read_tape C X))) (Fd_of_word : Fd P w K mg base "of_word" P_of_word [.int 0] 4 (spD K Tb (pm_of_word C X))) : ∃ t : XK → TE, (∀ (A : Around) (outer : List Env) (s : Shared) (H : Hp) (E : XK) (f co : Addr), Room 4 (A.deeper (PyProof.Rows.envOfC lq (lamE (wl 4)).2.2 s.heap.objs.size f (.ref co))) →
    PE (cxOf (L2.CX P w) P w K mg base [] lq (lamE (wl 4)).2.2 f (.ref co) A outer s H E) (lamE (wl 4)).2.1 (t E)) ∧ ∀ (E : XK) (B : Addr → Prop) (Φ : Dt → List Sl → Prop), B X → Wp ⟨K, Tb, [], E, B, False⟩ (t E) [] Φ := by
  refine ⟨_, fun A outer s H E f co hr => (pe_fn 0 Fd_read_tape (by first | decide | simp) (hr.mono (by decide)) (by rfl) (passes_call (takes_of rfl rfl rfl rfl) fun _ _ _ _ h => h) (pa_cons pe_str pa_nil)), fun E B Φ bx => ?_⟩
  try simp only [cxOf_K]
  walk_at "fl"
  refine ⟨Str.ofString "[]", rfl, by decide +kernel, fun l c r h => ?_, fun _ => bx⟩
  have e : TL.tl (Str.ofString "[]") = [91, 93] := by decide +kernel
  have := congrArg List.length (e.symm.trans h.e)
  simp at this
  omega
theorem sc_lb_5 : FnScope [] [] (lamE (wl 5)).2.2 := ⟨rfl, rfl, rfl, by decide +kernel, rfl, by decide +kernel, by decide +kernel⟩
theorem lb_5 {C X : Addr} {d1 d3 : V} (T : Tx K mg) (hdd : ∀ F, IsL K F [d1, .int 0, d3] [.tup [], .int 0, .tup []]) (Cd_Tape : Cd P w K mg base C "Tape" P_Tape_init [d1, .int 0, d3] 2 (spI K Tb (pm_Tape_init C X))) (Md_Tape_move : Md P w K mg base C "move" P_Tape_move [] 4 (spD K Tb (pm_move C X))) (Fd_told_tape : Fd P w K mg base "told_tape" P_told_tape [] 2 (spD K Tb (pm_told_tape C X))) (Fd_read_tape : Fd P w K mg base "read_tape" P_read_tape [] 4 (spD K Tb (pm_read_tape C X))) (Fd_of_word : Fd P w K mg base "of_word" P_of_word [.int 0] 4 (spD K Tb (pm_of_word C X))) : ∃ t : XK → TE, (∀ (A : Around) (outer : List Env) (s : Shared) (H : Hp) (E : XK) (f co : Addr), Room 4 (A.deeper (PyProof.Rows.envOfC lq (lamE (wl 5)).2.2 s.heap.objs.size f (.ref co))) →
    PE (cxOf (L2.CX P w) P w K mg base [] lq (lamE (wl 5)).2.2 f (.ref co) A outer s H E) (lamE (wl 5)).2.1 (t E)) ∧ ∀ (E : XK) (B : Addr → Prop) (Φ : Dt → List Sl → Prop), B X → Wp ⟨K, Tb, [], E, B, False⟩ (t E) [] Φ := by
  refine ⟨_, fun A outer s H E f co hr => (pe_fn 1 Fd_of_word (by first | decide | simp) (hr.mono (by decide)) (by rfl) (passes_call (takes_of rfl rfl rfl rfl) fun _ _ _ _ h => h) (pa_cons (pe_lst pa_nil) (pa_cons pe_int pa_nil))), fun E B Φ bx => ?_⟩
  try simp only [cxOf_K]
  walk_at "fl"
  refine ⟨_, [], 1, rfl, by decide, .inr rfl, nnd (by decide), fun h => ?_, fun _ => bx⟩
  simp at h
theorem sc_lb_6 : FnScope [] [] (lamE (wl 6)).2.2 := ⟨rfl, rfl, rfl, by decide +kernel, rfl, by decide +kernel, by decide +kernel⟩
theorem lb_6 {C X : Addr} {d1 d3 : V} (T : Tx K mg) (hdd : ∀ F, IsL K F [d1, .int 0, d3] [.tup [], .int 0, .tup []]) (Cd_Tape : Cd P w K mg base C "Tape" P_Tape_init [d1, .int 0, d3] 2 (spI K Tb (pm_Tape_init C X))) (Md_Tape_move : Md P w K mg base C "move" P_Tape_move [] 4 (spD K Tb (pm_move C X))) (Fd_told_tape : Fd P w K mg base "told_tape" P_told_tape [] 2 (spD K Tb (pm_told_tape C X))) (Fd_read_tape : Fd P w K mg base "read_tape" P_read_tape [] 4 (spD K Tb (pm_read_tape C X))) (Fd_of_word : Fd P w K mg base "of_word" P_of_word [.int 0] 4 (spD K Tb (pm_of_word C X))) : ∃ t : XK → TE, (∀ (A : Around) (outer : List Env) (s : Shared) (H : Hp) (E : XK) (f co : Addr), Room 4 (A.deeper (PyProof.Rows.envOfC lq (lamE (wl 6)).2.2 s.heap.objs.size f (.ref co))) →
    PE (cxOf (L2.CX P w) P w K mg base [] lq (lamE (wl 6)).2.2 f (.ref co) A outer s H E) (lamE (wl 6)).2.1 (t E)) ∧ ∀ (E : XK) (B : Addr → Prop) (Φ : Dt → List Sl → Prop), B X → Wp ⟨K, Tb, [], E, B, False⟩ (t E) [] Φ := by
  refine ⟨_, fun A outer s H E f co hr => (pe_fn 1 Fd_of_word (by first | decide | simp) (hr.mono (by decide)) (by rfl) (passes_call (takes_of rfl rfl rfl rfl) fun _ _ _ _ h => h) (pa_cons (pe_lst (pa_cons pe_int pa_nil)) (pa_cons (pe_op op_subX pe_int pe_int) pa_nil))), fun E B Φ bx => ?_⟩
  try simp only [cxOf_K]
  walk_at "fl"
  refine ⟨_, [1], 0 - 1, rfl, by decide, .inr rfl, nnd (by decide), fun h => ?_, fun _ => bx⟩
  simp at h
end
end TW
namespace TW
open PySem L2 Evl DL
local macro_rules | `(tactic| walk_at "d1") => `(tactic| with_reducible first
  | refine s_seq ?_
  | refine iteT ?_
  | refine iteF ?_
  | refine s_asg ?_
  | refine g_nm rfl rfl ?_
  | refine s_if ?_
  | refine s_ret ?_
  | refine s_next ?_
  | refine s_retN ?_
  | refine s_drop ?_
  | refine s_brk ?_
  | refine s_cont ?_
  | refine s_aug1 rfl rfl ?_
  | refine s_fldO ?_
  | refine Exists.intro _ (Exists.intro _ (Exists.intro _ (And.intro rfl (And.intro (by assumption) (And.intro (by assumption) (And.intro (by decide) ?_))))))
  | refine w_var rfl ?_
  | refine w_int ?_
  | refine w_str ?_
  | refine w_bl ?_
  | refine w_non ?_
  | refine t_cmp ?_
  | refine rd_ixO rfl rfl ?_
  | refine w_op ?_
  | refine w_un ?_
  | refine w_chain ?_
  | refine t_test ?_
  | refine t_B ?_
  | refine t_not ?_
  | refine t_and ?_
  | refine t_or ?_
  | refine w_andV ?_
  | refine w_orV ?_
  | refine w_notV ?_
  | refine w_if ?_
  | refine w_tup ?_
  | refine w_lst ?_
  | refine w_isiInt ?_
  | refine w_rev ?_
  | refine w_cb ?_
  | refine w_sl ?_
  | refine w_join ?_
  | refine t_yes ?_
  | refine w_m1 ?_
  | refine rj_find ?_
  | refine rj_count ?_
  | refine w_joined ?_
  | refine a_nil ?_
  | refine a_cons ?_
  | refine o_none ?_
  | refine o_some ?_
  | refine g_tup rfl ?_
  | refine g_setO rfl rfl ?_
  | refine gs_nil ?_
  | refine gs_cons ?_
  | refine j_nil ?_
  | refine j_cons ?_
  | refine rd_lt ?_
  | refine rd_le ?_
  | refine rd_gt ?_
  | refine rd_ge ?_
  | refine rd_sub ?_
  | refine rd_mod (by first | decide | assumption) ?_
  | refine rd_div (by first | decide | (constructor <;> omega)) ?_
  | refine rd_mulR (by decide) ?_
  | refine rd_powC (by decide) ?_
  | refine rd_addI ?_
  | refine rd_eqI ?_
  | refine rd_neI ?_
  | refine rd_eqS ?_
  | refine rd_neS ?_
  | refine rd_eqB ?_
  | refine rd_neB ?_
  | refine rd_ipa ?_
  | refine rd_ips ?_
  | refine ru_neg ?_
  | refine rx_lenT ?_
  | refine rx_lenL ?_
  | refine rx_abs ?_
  | refine rc_intI ?_
  | refine rc_intB ?_
  | refine rc_tupT ?_
  | refine rc_tupL ?_
  | refine rc_tupR ?_
  | refine rs_tup ?_
  | refine rs_lst ?_
  | refine w_fldO rfl (by assumption) (by assumption) rfl ?_
  | refine w_fldV rfl (by assumption) (by assumption) rfl ?_
  | refine w_fld ?_
  | refine Exists.intro _ (And.intro rfl ?_)
  | refine Exists.intro _ (Exists.intro _ (Exists.intro _ (Exists.intro _ (And.intro rfl (And.intro (by assumption) (And.intro (by assumption) (And.intro (by rfl) ?_)))))))
  | refine w_callI (dds := []) (fun _ => .nil) (Exists.intro _ rfl) ?_
  | refine w_callI0 (dds := []) (fun _ => .nil) (Exists.intro _ rfl) ?_
  | refine w_call (dds := []) (fun _ => .nil) ?_
  | refine w_call0 (dds := []) (fun _ => .nil) ?_
  | refine w_make (dds := []) (fun _ => .nil) ?_
  | refine w_make0 (dds := []) (fun _ => .nil) ?_
  | refine w_meth (dds := []) (fun _ => .nil) ?_
  | refine w_meth0 (dds := []) (fun _ => .nil) ?_
  | refine And.intro (small (by simp only [List.length_cons, List.length_nil]; omega)) ?_
  | refine Exists.intro _ (Exists.intro _ (And.intro rfl (And.intro (by decide) ?_)))
  | refine Or.inl (Exists.intro _ (And.intro rfl ?_))
  | refine Or.inr (Exists.intro _ (And.intro rfl ?_))
  | refine And.intro rfl ?_)
local macro_rules | `(tactic| walk_at "dl") => `(tactic| repeat (first | walk_at "d1" | (dsimp only [onx, rets, lpe, rets1, List.cons_append, List.nil_append])))

local macro_rules | `(tactic| walk_at "n1") => `(tactic| with_reducible first
  | refine s_seq ?_
  | refine iteT ?_
  | refine iteF ?_
  | refine s_asg ?_
  | refine g_nm rfl rfl ?_
  | refine s_ret ?_
  | refine s_next ?_
  | refine s_retN ?_
  | refine s_drop ?_
  | refine s_brk ?_
  | refine s_cont ?_
  | refine s_aug1 rfl rfl ?_
  | refine s_fldO ?_
  | refine Exists.intro _ (Exists.intro _ (Exists.intro _ (And.intro rfl (And.intro (by assumption) (And.intro (by assumption) (And.intro (by decide) ?_))))))
  | refine w_var rfl ?_
  | refine w_int ?_
  | refine w_str ?_
  | refine w_bl ?_
  | refine w_non ?_
  | refine t_cmp ?_
  | refine rd_ixO rfl rfl ?_
  | refine w_op ?_
  | refine w_un ?_
  | refine w_chain ?_
  | refine t_test ?_
  | refine t_B ?_
  | refine t_not ?_
  | refine t_and ?_
  | refine t_or ?_
  | refine w_andV ?_
  | refine w_orV ?_
  | refine w_notV ?_
  | refine w_tup ?_
  | refine w_lst ?_
  | refine w_isiInt ?_
  | refine w_rev ?_
  | refine w_cb ?_
  | refine w_sl ?_
  | refine w_join ?_
  | refine t_yes ?_
  | refine w_m1 ?_
  | refine rj_find ?_
  | refine rj_count ?_
  | refine w_joined ?_
  | refine a_nil ?_
  | refine a_cons ?_
  | refine o_none ?_
  | refine o_some ?_
  | refine g_tup rfl ?_
  | refine g_setO rfl rfl ?_
  | refine gs_nil ?_
  | refine gs_cons ?_
  | refine j_nil ?_
  | refine j_cons ?_
  | refine rd_lt ?_
  | refine rd_le ?_
  | refine rd_gt ?_
  | refine rd_ge ?_
  | refine rd_sub ?_
  | refine rd_mod (by first | decide | assumption) ?_
  | refine rd_div (by first | decide | (constructor <;> omega)) ?_
  | refine rd_mulR (by decide) ?_
  | refine rd_powC (by decide) ?_
  | refine rd_addI ?_
  | refine rd_eqI ?_
  | refine rd_neI ?_
  | refine rd_eqS ?_
  | refine rd_neS ?_
  | refine rd_eqB ?_
  | refine rd_neB ?_
  | refine rd_ipa ?_
  | refine rd_ips ?_
  | refine ru_neg ?_
  | refine rx_lenT ?_
  | refine rx_lenL ?_
  | refine rx_abs ?_
  | refine rc_intI ?_
  | refine rc_intB ?_
  | refine rc_tupT ?_
  | refine rc_tupL ?_
  | refine rc_tupR ?_
  | refine rs_tup ?_
  | refine rs_lst ?_
  | refine w_fldO rfl (by assumption) (by assumption) rfl ?_
  | refine w_fldV rfl (by assumption) (by assumption) rfl ?_
  | refine w_fld ?_
  | refine Exists.intro _ (And.intro rfl ?_)
  | refine Exists.intro _ (Exists.intro _ (Exists.intro _ (Exists.intro _ (And.intro rfl (And.intro (by assumption) (And.intro (by assumption) (And.intro (by rfl) ?_)))))))
  | refine w_callI (dds := []) (fun _ => .nil) (Exists.intro _ rfl) ?_
  | refine w_callI0 (dds := []) (fun _ => .nil) (Exists.intro _ rfl) ?_
  | refine w_call (dds := []) (fun _ => .nil) ?_
  | refine w_call0 (dds := []) (fun _ => .nil) ?_
  | refine w_make (dds := []) (fun _ => .nil) ?_
  | refine w_make0 (dds := []) (fun _ => .nil) ?_
  | refine w_meth (dds := []) (fun _ => .nil) ?_
  | refine w_meth0 (dds := []) (fun _ => .nil) ?_
  | refine And.intro (small (by simp only [List.length_cons, List.length_nil]; omega)) ?_
  | refine Exists.intro _ (Exists.intro _ (And.intro rfl (And.intro (by decide) ?_)))
  | refine Or.inl (Exists.intro _ (And.intro rfl ?_))
  | refine Or.inr (Exists.intro _ (And.intro rfl ?_))
  | refine And.intro rfl ?_)
local macro_rules | `(tactic| walk_at "nl") => `(tactic| repeat (first | walk_at "n1" | (dsimp only [onx, rets, lpe, rets1, List.cons_append, List.nil_append])))

local macro_rules | `(tactic| walk_at "f1") => `(tactic| with_reducible first
  | refine s_seq ?_
  | refine iteT ?_
  | refine iteF ?_
  | refine s_asg ?_
  | refine g_nm rfl rfl ?_
  | refine s_ifF ?_
  | refine s_ret ?_
  | refine s_next ?_
  | refine s_retN ?_
  | refine s_drop ?_
  | refine s_brk ?_
  | refine s_cont ?_
  | refine s_aug1 rfl rfl ?_
  | refine s_fldO ?_
  | refine Exists.intro _ (Exists.intro _ (Exists.intro _ (And.intro rfl (And.intro (by assumption) (And.intro (by assumption) (And.intro (by decide) ?_))))))
  | refine w_var rfl ?_
  | refine w_int ?_
  | refine w_str ?_
  | refine w_bl ?_
  | refine w_non ?_
  | refine t_cmp ?_
  | refine rd_ixO rfl rfl ?_
  | refine w_op ?_
  | refine w_un ?_
  | refine w_chain ?_
  | refine t_test ?_
  | refine t_B ?_
  | refine t_not ?_
  | refine t_and ?_
  | refine t_orF ?_
  | refine w_andV ?_
  | refine w_orV ?_
  | refine w_notV ?_
  | refine w_tup ?_
  | refine w_lst ?_
  | refine w_isiInt ?_
  | refine w_rev ?_
  | refine w_cb ?_
  | refine w_sl ?_
  | refine w_join ?_
  | refine t_yes ?_
  | refine w_m1 ?_
  | refine rj_find ?_
  | refine rj_count ?_
  | refine w_joined ?_
  | refine a_nil ?_
  | refine a_cons ?_
  | refine o_none ?_
  | refine o_some ?_
  | refine g_tup rfl ?_
  | refine g_setO rfl rfl ?_
  | refine gs_nil ?_
  | refine gs_cons ?_
  | refine j_nil ?_
  | refine j_cons ?_
  | refine rd_lt ?_
  | refine rd_le ?_
  | refine rd_gt ?_
  | refine rd_ge ?_
  | refine rd_sub ?_
  | refine rd_mod (by first | decide | assumption) ?_
  | refine rd_div (by first | decide | (constructor <;> omega)) ?_
  | refine rd_mulR (by decide) ?_
  | refine rd_powC (by decide) ?_
  | refine rd_addI ?_
  | refine rd_eqI ?_
  | refine rd_neI ?_
  | refine rd_eqS ?_
  | refine rd_neS ?_
  | refine rd_eqB ?_
  | refine rd_neB ?_
  | refine rd_ipa ?_
  | refine rd_ips ?_
  | refine ru_neg ?_
  | refine rx_lenT ?_
  | refine rx_lenL ?_
  | refine rx_abs ?_
  | refine rc_intI ?_
  | refine rc_intB ?_
  | refine rc_tupT ?_
  | refine rc_tupL ?_
  | refine rc_tupR ?_
  | refine rs_tup ?_
  | refine rs_lst ?_
  | refine w_fldO rfl (by assumption) (by assumption) rfl ?_
  | refine w_fldV rfl (by assumption) (by assumption) rfl ?_
  | refine w_fld ?_
  | refine Exists.intro _ (And.intro rfl ?_)
  | refine Exists.intro _ (Exists.intro _ (Exists.intro _ (Exists.intro _ (And.intro rfl (And.intro (by assumption) (And.intro (by assumption) (And.intro (by rfl) ?_)))))))
  | refine w_callI (dds := []) (fun _ => .nil) (Exists.intro _ rfl) ?_
  | refine w_callI0 (dds := []) (fun _ => .nil) (Exists.intro _ rfl) ?_
  | refine w_call (dds := []) (fun _ => .nil) ?_
  | refine w_call0 (dds := []) (fun _ => .nil) ?_
  | refine w_make (dds := []) (fun _ => .nil) ?_
  | refine w_make0 (dds := []) (fun _ => .nil) ?_
  | refine w_meth (dds := []) (fun _ => .nil) ?_
  | refine w_meth0 (dds := []) (fun _ => .nil) ?_
  | refine And.intro (small (by simp only [List.length_cons, List.length_nil]; omega)) ?_
  | refine Exists.intro _ (Exists.intro _ (And.intro rfl (And.intro (by decide) ?_)))
  | refine Or.inl (Exists.intro _ (And.intro rfl ?_))
  | refine Or.inr (Exists.intro _ (And.intro rfl ?_))
  | refine And.intro rfl ?_)
local macro_rules | `(tactic| walk_at "fl") => `(tactic| repeat (first | walk_at "f1" | (dsimp only [onx, rets, lpe, rets1, List.cons_append, List.nil_append])))

theorem rd_shownE {K : PySem.W.Frag} {P : Dt → Prop} {l l' r r' : List Int} {h h' : Int} (q : P (.bl (decide ((l, h, r) = (l', h', r'))))) : RD K (rEqX K) (.tup [.tup (dI l), .int h, .tup (dI r)]) (.tup [.tup (dI l'), .int h', .tup (dI r')]) P :=
  rd_eqE (eqe_3 (eqe_tup eqe_int) (eqe_mono eqe_int (by decide)) (eqe_tup eqe_int)) (by decide) (l, h, r) (l', h', r') q
abbrev lbD (i : Nat) : Dt := .tup [.lam lq (lamE (wl i)).1 (lamE (wl i)).2.1 (lamE (wl i)).2.2, .str "tape"]
def wrongD : List Dt := [lbD 0, lbD 1, lbD 2, lbD 3, lbD 4, lbD 5, lbD 6]
section
variable {P : Program} {w : World} {K : PySem.W.Frag} {Tb : TbT} {mg : Str → Option Value} {base : Heap}
theorem ok_law {f c Pt C X : Addr} {fd : FuncData} {d1 d3 : V} {lc : List (Addr × Str)} (T : Tx K mg) (T2 : Ty K mg) (cc : TC K C) (hdd : ∀ F, IsL K F [d1, .int 0, d3] [.tup [], .int 0, .tup []]) (NoEq_Tape : NoEq K C)
    (Cd_Tape : Cd P w K mg base C "Tape" P_Tape_init [d1, .int 0, d3] 2 (spI K Tb (pm_Tape_init C X))) (Md_Tape_write : Md P w K mg base C "write" P_Tape_write [] 4 (spD K Tb (pm_write C))) (Md_Tape_move : Md P w K mg base C "move" P_Tape_move [] 4 (spD K Tb (pm_move C X))) (Md_Tape_at : Md P w K mg base C "at" P_Tape_at [] 2 (spD K Tb (pm_at C)))
    (Md_Tape_ones : Md P w K mg base C "ones" P_Tape_ones [] 2 (spD K Tb (pm_ones C))) (Md_Tape_span : Md P w K mg base C "span" P_Tape_span [] 2 (spD K Tb (pm_span C))) (Md_Tape_word : Md P w K mg base C "word" P_Tape_word [] 1 (spD K Tb (pm_word C))) (Md_Tape_shown : Md P w K mg base C "shown" P_Tape_shown [] 1 (spD K Tb (pm_shown C)))
    (Fd_trimmed : Fd P w K mg base "trimmed" P_trimmed [] 1 (spD K Tb pm_trimmed)) (Fd_first_of : Fd P w K mg base "first_of" P_first_of [] 1 (spD K Tb pm_first_of)) (Fd_of_word : Fd P w K mg base "of_word" P_of_word [.int 0] 4 (spD K Tb (pm_of_word C X))) (Fd_told_tape : Fd P w K mg base "told_tape" P_told_tape [] 2 (spD K Tb (pm_told_tape C X)))
    (Fd_read_tape : Fd P w K mg base "read_tape" P_read_tape [] 4 (spD K Tb (pm_read_tape C X))) (Fd_turned_tape : Fd P w K mg base "turned_tape" P_turned_tape [] 4 (spD K Tb (pm_turned_tape C))) (Fd_law_roll : Fd P w K mg base "_law_roll" P_law_roll [] 1 (spI K Tb pm_roll)) (Fd_law_rounds : Fd P w K mg base "_law_rounds" P_law_rounds [] 2 (spD K Tb pm_rounds))
    (Fd_law_tape : Fd P w K mg base "_law_tape" P_law_tape [] 4 (spI K Tb (pm_law_tape C))) (Fd_law_same : Fd P w K mg base "_law_same" P_law_same [] 3 (spD K Tb (pm_same C))) (Fd_law_told : Fd P w K mg base "_law_told" P_law_told [] 6 (spTold P w K mg base 4 lc))
    (TB_law : GxR.TabB base mg c Pt) (hPt : (Pt, ("law" : Str) ++ ".<locals>." ++ "<lambda>") ∈ Tb.l) (hPl : ∀ x ∈ Tb.l, x.1 = Pt → x.2 = ("law" : Str) ++ ".<locals>." ++ "<lambda>") (hTg : Tb.g = []) (Tld_told : Tld K mg "_law_told" "what" [] s_law_told toldH0 (toldH.drop 1) lc) (tX : ∀ Q : Str → Prop, Q "tape" → toldBy K Q lc (.ref X))
    (F : FunDc K "law" "law" (defArgs s_law) (defBody s_law) (defScope s_law) [] f fd c) : FnOk P w K mg base (L2.CX P w) 7 f fd P_law (spLaw K Tb) := by
  refine law_D F sc_law (by decide) fun A outer s H E hr => ?_
  have tE : Takes (cxOf (L2.CX P w) P w K mg base N_law "law" (defScope s_law) f (.ref c) A outer s H E) (fun cls d _ H => E cls d H) := takes_of rfl rfl rfl rfl
  have pE : Passes (L2.CX P w) (cxOf (L2.CX P w) P w K mg base N_law "law" (defScope s_law) f (.ref c) A outer s H E) E := passes_call tE fun _ _ _ _ h => h
  have p11 : PSs (cxOf (L2.CX P w) P w K mg base N_law "law" (defScope s_law) f (.ref c) A outer s H E) (dayB.drop 24) tNext := pss_nil
  obtain ⟨t10, p10, w10⟩ := seg_10 (Tb := Tb) T NoEq_Tape Fd_law_roll Fd_read_tape TB_law hPt hPl hTg Tld_told tX hr p11
  obtain ⟨t9, p9, w9⟩ := seg_9 (Tb := Tb) (C := C) (X := X) T Fd_trimmed Fd_first_of hr p10
  obtain ⟨t8, p8, w8⟩ := seg_8 (Tb := Tb) (C := C) (X := X) T NoEq_Tape Md_Tape_at hr p9
  obtain ⟨t7, p7, w7⟩ := seg_7 (Tb := Tb) T Fd_law_roll Fd_of_word TB_law hPt hPl hTg Tld_told tX hr p8
  obtain ⟨t6, p6, w6⟩ := seg_6 (Tb := Tb) (C := C) (X := X) T Fd_turned_tape Md_Tape_shown hr p7
  obtain ⟨t5, p5, w5⟩ := seg_5 (Tb := Tb) (C := C) (X := X) T T2 Fd_told_tape Fd_read_tape Md_Tape_shown hr p6
  obtain ⟨t4, p4, w4⟩ := seg_4 (Tb := Tb) (C := C) (X := X) T T2 Md_Tape_span hr p5
  obtain ⟨t3, p3, w3⟩ := seg_3 (Tb := Tb) (C := C) (X := X) T cc Md_Tape_shown Md_Tape_word hr p4
  obtain ⟨t2, p2, w2⟩ := seg_2 (Tb := Tb) (C := C) (X := X) T cc Fd_law_roll Fd_law_same Md_Tape_write Md_Tape_move hr p3
  obtain ⟨t1, p1, w1⟩ := seg_1 (Tb := Tb) (C := C) T cc Fd_law_tape hr p2
  obtain ⟨u0, v0, x0⟩ := lb_0 (P := P) (w := w) (mg := mg) (base := base) T hdd Cd_Tape Md_Tape_move Fd_told_tape Fd_read_tape Fd_of_word
  obtain ⟨u1, v1, x1⟩ := lb_1 (P := P) (w := w) (mg := mg) (base := base) T hdd Cd_Tape Md_Tape_move Fd_told_tape Fd_read_tape Fd_of_word
  obtain ⟨u2, v2, x2⟩ := lb_2 (P := P) (w := w) (mg := mg) (base := base) T hdd Cd_Tape Md_Tape_move Fd_told_tape Fd_read_tape Fd_of_word
  obtain ⟨u3, v3, x3⟩ := lb_3 (P := P) (w := w) (mg := mg) (base := base) T hdd Cd_Tape Md_Tape_move Fd_told_tape Fd_read_tape Fd_of_word
  obtain ⟨u4, v4, x4⟩ := lb_4 (P := P) (w := w) (mg := mg) (base := base) T hdd Cd_Tape Md_Tape_move Fd_told_tape Fd_read_tape Fd_of_word
  obtain ⟨u5, v5, x5⟩ := lb_5 (P := P) (w := w) (mg := mg) (base := base) T hdd Cd_Tape Md_Tape_move Fd_told_tape Fd_read_tape Fd_of_word
  obtain ⟨u6, v6, x6⟩ := lb_6 (P := P) (w := w) (mg := mg) (base := base) T hdd Cd_Tape Md_Tape_move Fd_told_tape Fd_read_tape Fd_of_word
  have k0 : LBok P w K mg base 4 (lbOf 0 u0) := ⟨sc_lb_0, fun _ _ _ _ _ => rfl, v0⟩
  have k1 : LBok P w K mg base 4 (lbOf 1 u1) := ⟨sc_lb_1, fun _ _ _ _ _ => rfl, v1⟩
  have k2 : LBok P w K mg base 4 (lbOf 2 u2) := ⟨sc_lb_2, fun _ _ _ _ _ => rfl, v2⟩
  have k3 : LBok P w K mg base 4 (lbOf 3 u3) := ⟨sc_lb_3, fun _ _ _ _ _ => rfl, v3⟩
  have k4 : LBok P w K mg base 4 (lbOf 4 u4) := ⟨sc_lb_4, fun _ _ _ _ _ => rfl, v4⟩
  have k5 : LBok P w K mg base 4 (lbOf 5 u5) := ⟨sc_lb_5, fun _ _ _ _ _ => rfl, v5⟩
  have k6 : LBok P w K mg base 4 (lbOf 6 u6) := ⟨sc_lb_6, fun _ _ _ _ _ => rfl, v6⟩
  refine ⟨_, (pss_cons (ps_for (passes_of rfl) rfl (pi_or (pi_tupK K rfl (pe_fn 0 Fd_law_rounds (by first | decide | simp) (hr.mono (by decide)) (by rfl) pE (pa_cons (pv 0) (pa_cons pe_int pa_nil)))) (pi_listK K rfl (pe_fn 0 Fd_law_rounds (by first | decide | simp) (hr.mono (by decide)) (by rfl) pE (pa_cons (pv 0) (pa_cons pe_int pa_nil))))) (pg_name (i := 1) sc_law.nd rfl (by first | exact Or.inl rfl | exact Or.inr rfl)) p1) (pss_cons (ps_set (i := 21) sc_law.nd rfl (by first | exact Or.inl rfl | exact Or.inr rfl) (pe_lst (pa_cons (pe_tup (pa_cons (pe_lamO (("law" : Str) ++ ".<locals>.") _ rfl rfl TB_law rfl (by decide +kernel)) (pa_cons pe_str pa_nil))) (pa_cons (pe_tup (pa_cons (pe_lamO (("law" : Str) ++ ".<locals>.") _ rfl rfl TB_law rfl (by decide +kernel)) (pa_cons pe_str pa_nil))) (pa_cons (pe_tup (pa_cons (pe_lamO (("law" : Str) ++ ".<locals>.") _ rfl rfl TB_law rfl (by decide +kernel)) (pa_cons pe_str pa_nil))) (pa_cons (pe_tup (pa_cons (pe_lamO (("law" : Str) ++ ".<locals>.") _ rfl rfl TB_law rfl (by decide +kernel)) (pa_cons pe_str pa_nil))) (pa_cons (pe_tup (pa_cons (pe_lamO (("law" : Str) ++ ".<locals>.") _ rfl rfl TB_law rfl (by decide +kernel)) (pa_cons pe_str pa_nil))) (pa_cons (pe_tup (pa_cons (pe_lamO (("law" : Str) ++ ".<locals>.") _ rfl rfl TB_law rfl (by decide +kernel)) (pa_cons pe_str pa_nil))) (pa_cons (pe_tup (pa_cons (pe_lamO (("law" : Str) ++ ".<locals>.") _ rfl rfl TB_law rfl (by decide +kernel)) (pa_cons pe_str pa_nil))) pa_nil))))))))) (pss_cons (ps_if (PW.pt (pw_or (pt_cmpR (op_neK K rfl hr.units) (pe_fn 0 Fd_told_tape (by first | decide | simp) (hr.mono (by decide)) (by rfl) pE (pa_cons (pe_cd 3 Cd_Tape (by first | decide | simp) (hr.mono (by decide)) (by rfl) pE (pa_cons (pe_lst pa_nil) (pa_cons pe_int (pa_cons (pe_lst pa_nil) pa_nil)))) pa_nil)) pe_str (nomark _)) (pw_or1 (pt_cmpR (op_neK K rfl hr.units) (pe_md0 Md_Tape_shown (pe_fn 1 Fd_of_word (by first | decide | simp) (hr.mono (by decide)) (by rfl) pE (pa_cons (pe_lst (pa_cons pe_int pa_nil)) (pa_cons pe_int pa_nil))) (hr.mono (by decide)) pE) (pe_tup (pa_cons (pe_tup pa_nil) (pa_cons pe_int (pa_cons (pe_tup pa_nil) pa_nil)))) (nomark _))))) (pss_one (ps_ret pe_bl)) pss_nil) (pss_one (ps_ret (pe_and (pe_cmpR (op_eqK K rfl hr.units) (pe_lc (own := [("pair", 22)]) rfl sc_law.nd (pi_listK K rfl (pv 21)) (blkOk_by (N := N_law) (sc := defScope s_law) (by decide +kernel)) (fun _ _ _ _ _ => (pg_name (i := 22) sc_law.nd rfl (by first | exact Or.inl rfl | exact Or.inr rfl))) (fun _ _ _ _ _ => pts_one (pt_cmpR (op_neK K rfl hr.units) (pe_fn 0 Fd_law_told (by first | decide | simp) (hr.mono (by decide)) (by rfl) passL (pa_cons (pe_ix (ix_seqK K rfl) (pv 22) pe_int (fun _ _ => rfl)) pa_nil)) (pe_ix (ix_seqK K rfl) (pv 22) pe_int (fun _ _ => rfl)) (nomark _))) (fun _ _ _ _ _ => (pv 22))) (pe_lst pa_nil) (nomark _)) (pe_and (pe_cmpR (op_eqK K rfl hr.units) (pe_md0 Md_Tape_shown (pe_cd 3 Cd_Tape (by first | decide | simp) (hr.mono (by decide)) (by rfl) pE (pa_cons (pe_lst (pa_cons pe_int pa_nil)) (pa_cons pe_int (pa_cons (pe_lst (pa_cons pe_int (pa_cons pe_int pa_nil))) pa_nil)))) (hr.mono (by decide)) pE) (pe_tup (pa_cons (pe_tup pa_nil) (pa_cons pe_int (pa_cons (pe_tup pa_nil) pa_nil)))) (nomark _)) (pe_one (pe_cmpR (op_eqK K rfl hr.units) (pe_md0 Md_Tape_shown (pe_fn 0 Fd_of_word (by first | decide | simp) (hr.mono (by decide)) (by rfl) pE (pa_cons (pe_lst pa_nil) pa_nil)) (hr.mono (by decide)) pE) (pe_tup (pa_cons (pe_tup pa_nil) (pa_cons pe_int (pa_cons (pe_tup pa_nil) pa_nil)))) (nomark _)))))))))), fun ns hl => ?_⟩
  try simp only [cxOf_K]
  clear hr tE pE
  refine l_seq (s_dice rfl (fun _ h => h) rfl ?_)
  walk_at "fl"
  refine ⟨ns, rfl, by omega, fun d hd => ?_⟩
  obtain ⟨y1, y2, y3, rfl⟩ := hd
  refine ⟨rfl, [y1, y2, y3], rfl, by simp, ?_⟩
  refine w1 _ _ ⟨_, ⟨y1, y2, y3, rfl⟩, rfl⟩ fun _ h1 => w2 _ _ h1 fun _ h2 => w3 _ _ h2 fun _ h3 => w4 _ _ h3 fun _ h4 => w5 _ _ h4 fun _ h5 => w6 _ _ h5 fun _ h6 => w7 _ _ h6 fun _ h7 => w8 _ _ h7 fun _ h8 => w9 _ _ h8 fun _ h9 => w10 _ _ h9 fun Γ10 h10 => s_next ?_
  obtain ⟨d, hd, rfl⟩ := h10
  clear w1 w2 w3 w4 w5 w6 w7 w8 w9 w10 p1 p2 p3 p4 p5 p6 p7 p8 p9 p10 p11
  refine WsT.of (fun _ h => h) (s_wipe [1] rfl ?_)
  refine s_seq (s_asg (Wp.mono (Φ := fun d Γ1 => d = .lst wrongD ∧ Γ1 = [.un, .un, .un, .un, .un, .un, .un, .un, .un, .un, .un, .un, .un, .un, .un, .un, .un, .un, .un, .un, .un, .un, .un]) ?_ ?_))
  · walk_at "fl"
    iterate 7
      refine w_lamO hPt hPl hTg ?_
      walk_at "fl"
    rfl
  rintro _ _ ⟨rfl, rfl⟩
  walk_at "fl"
  refine ⟨rfl, _, _, [], 9, [], rfl, ⟨by decide, .inr rfl⟩, ⟨by decide, .inr rfl⟩, fun _ => ⟨rfl, _, _, rfl, ?_⟩, fun h => (h (nnd (by decide))).elim⟩
  walk_at "fl"
  refine ⟨Tp.mk' [] 9 [], rfl, ⟨by decide, by decide⟩, Tp.g_mk (nnd (by decide)) (by decide) (nnd (by decide)), fun _ => ?_, fun h => (h fun x hx => ?_).elim⟩
  rotate_left
  · have : x ∈ [(9 : Int)] := hx
    simp at this
    omega
  walk_at "fl"
  refine ⟨_, [1], 0, rfl, by decide, .inr rfl, nnd (by decide), fun _ => ?_, fun h => (h (.inr ⟨by decide, by decide⟩)).elim⟩
  walk_at "fl"
  refine ⟨_, rfl, ?_⟩
  walk_at "fl"
  refine rd_shown (l' := []) (r' := []) ⟨_, rfl, nF (by decide) ?_⟩
  walk_at "fl"
  refine w_lcF rfl (tgt_name (by simp)) (fun _ => false) _root_.id (i_lst ?_)
  walk_at "fl"
  refine ⟨small (by decide), fun i x ed => ?_, ?_⟩
  · have hm : x ∈ wrongD := List.mem_of_getElem? ed
    unfold wrongD at hm
    simp only [List.mem_cons, List.not_mem_nil, or_false] at hm
    rcases hm with rfl | rfl | rfl | rfl | rfl | rfl | rfl
    · walk_at "fl"
      refine w_toldL True.intro ?_
      walk_at "fl"
      refine rd_ixT rfl ?_
      walk_at "fl"
      refine ⟨lbOf 0 u0, rfl, k0, rfl, fun E => x0 E _ _ (tX _ ?_)⟩
      walk_at "fl"
      refine rd_ixT rfl ?_
      refine rd_neS ⟨_, rfl, ?_⟩
      rw [decide_eq_true rfl]
      exact ⟨rfl, rfl⟩
    · walk_at "fl"
      refine w_toldL True.intro ?_
      walk_at "fl"
      refine rd_ixT rfl ?_
      walk_at "fl"
      refine ⟨lbOf 1 u1, rfl, k1, rfl, fun E => x1 E _ _ (tX _ ?_)⟩
      walk_at "fl"
      refine rd_ixT rfl ?_
      refine rd_neS ⟨_, rfl, ?_⟩
      rw [decide_eq_true rfl]
      exact ⟨rfl, rfl⟩
    · walk_at "fl"
      refine w_toldL True.intro ?_
      walk_at "fl"
      refine rd_ixT rfl ?_
      walk_at "fl"
      refine ⟨lbOf 2 u2, rfl, k2, rfl, fun E => x2 E _ _ (tX _ ?_)⟩
      walk_at "fl"
      refine rd_ixT rfl ?_
      refine rd_neS ⟨_, rfl, ?_⟩
      rw [decide_eq_true rfl]
      exact ⟨rfl, rfl⟩
    · walk_at "fl"
      refine w_toldL True.intro ?_
      walk_at "fl"
      refine rd_ixT rfl ?_
      walk_at "fl"
      refine ⟨lbOf 3 u3, rfl, k3, rfl, fun E => x3 E _ _ (tX _ ?_)⟩
      walk_at "fl"
      refine rd_ixT rfl ?_
      refine rd_neS ⟨_, rfl, ?_⟩
      rw [decide_eq_true rfl]
      exact ⟨rfl, rfl⟩
    · walk_at "fl"
      refine w_toldL True.intro ?_
      walk_at "fl"
      refine rd_ixT rfl ?_
      walk_at "fl"
      refine ⟨lbOf 4 u4, rfl, k4, rfl, fun E => x4 E _ _ (tX _ ?_)⟩
      walk_at "fl"
      refine rd_ixT rfl ?_
      refine rd_neS ⟨_, rfl, ?_⟩
      rw [decide_eq_true rfl]
      exact ⟨rfl, rfl⟩
    · walk_at "fl"
      refine w_toldL True.intro ?_
      walk_at "fl"
      refine rd_ixT rfl ?_
      walk_at "fl"
      refine ⟨lbOf 5 u5, rfl, k5, rfl, fun E => x5 E _ _ (tX _ ?_)⟩
      walk_at "fl"
      refine rd_ixT rfl ?_
      refine rd_neS ⟨_, rfl, ?_⟩
      rw [decide_eq_true rfl]
      exact ⟨rfl, rfl⟩
    · walk_at "fl"
      refine w_toldL True.intro ?_
      walk_at "fl"
      refine rd_ixT rfl ?_
      walk_at "fl"
      refine ⟨lbOf 6 u6, rfl, k6, rfl, fun E => x6 E _ _ (tX _ ?_)⟩
      walk_at "fl"
      refine rd_ixT rfl ?_
      refine rd_neS ⟨_, rfl, ?_⟩
      rw [decide_eq_true rfl]
      exact ⟨rfl, rfl⟩
  walk_at "fl"
  rw [List.filter_eq_nil_iff.mpr (by simp)]
  refine rd_eqE (eqe_lst eqe_int) (by decide) ([] : List Int) [] ?_
  refine ⟨_, rfl, ?_⟩
  rw [decide_eq_true rfl]
  refine iteT ?_
  walk_at "fl"
  refine ⟨rfl, _, _, [0], 0, [0, 0], rfl, ⟨by decide, .inr rfl⟩, ⟨by decide, .inr rfl⟩, fun _ => ⟨rfl, _, _, rfl, ?_⟩, fun h => (h (nnd (by decide))).elim⟩
  walk_at "fl"
  refine ⟨Tp.mk' [0] 0 [0, 0], rfl, ?_⟩
  walk_at "fl"
  refine rd_shownE (l' := []) (r' := []) ⟨_, rfl, ?_⟩
  rw [decide_eq_true (by decide)]
  refine iteT ?_
  walk_at "fl"
  refine w_call (dds := [.int 0]) (fun _ => .cons .int .nil) ?_
  walk_at "fl"
  refine ⟨_, [], 0, rfl, by decide, .inr rfl, nnd (by decide), fun _ => ?_, fun h => (h (.inl ⟨rfl, rfl⟩)).elim⟩
  walk_at "fl"
  refine ⟨_, rfl, ?_⟩
  walk_at "fl"
  refine rd_shownE (l' := []) (r' := []) ?_
  rw [decide_eq_true (by decide)]
end
end TW
namespace TW
open PySem L2 Evl DL
local macro_rules | `(tactic| walk_at "d1") => `(tactic| with_reducible first
  | refine s_seq ?_
  | refine iteT ?_
  | refine iteF ?_
  | refine s_asg ?_
  | refine g_nm rfl rfl ?_
  | refine s_if ?_
  | refine s_ret ?_
  | refine s_next ?_
  | refine s_retN ?_
  | refine s_drop ?_
  | refine s_brk ?_
  | refine s_cont ?_
  | refine s_aug1 rfl rfl ?_
  | refine s_fldO ?_
  | refine Exists.intro _ (Exists.intro _ (Exists.intro _ (And.intro rfl (And.intro (by assumption) (And.intro (by assumption) (And.intro (by decide) ?_))))))
  | refine w_var rfl ?_
  | refine w_int ?_
  | refine w_str ?_
  | refine w_bl ?_
  | refine w_non ?_
  | refine t_cmp ?_
  | refine rd_ixO rfl rfl ?_
  | refine w_op ?_
  | refine w_un ?_
  | refine w_chain ?_
  | refine t_test ?_
  | refine t_B ?_
  | refine t_not ?_
  | refine t_and ?_
  | refine t_or ?_
  | refine w_andV ?_
  | refine w_orV ?_
  | refine w_notV ?_
  | refine w_if ?_
  | refine w_tup ?_
  | refine w_lst ?_
  | refine w_isiInt ?_
  | refine w_rev ?_
  | refine w_cb ?_
  | refine w_sl ?_
  | refine w_join ?_
  | refine t_yes ?_
  | refine w_m1 ?_
  | refine rj_find ?_
  | refine rj_count ?_
  | refine w_joined ?_
  | refine a_nil ?_
  | refine a_cons ?_
  | refine o_none ?_
  | refine o_some ?_
  | refine g_tup rfl ?_
  | refine g_setO rfl rfl ?_
  | refine gs_nil ?_
  | refine gs_cons ?_
  | refine j_nil ?_
  | refine j_cons ?_
  | refine rd_lt ?_
  | refine rd_le ?_
  | refine rd_gt ?_
  | refine rd_ge ?_
  | refine rd_sub ?_
  | refine rd_mod (by first | decide | assumption) ?_
  | refine rd_div (by first | decide | (constructor <;> omega)) ?_
  | refine rd_mulR (by decide) ?_
  | refine rd_powC (by decide) ?_
  | refine rd_addI ?_
  | refine rd_eqI ?_
  | refine rd_neI ?_
  | refine rd_eqS ?_
  | refine rd_neS ?_
  | refine rd_eqB ?_
  | refine rd_neB ?_
  | refine rd_ipa ?_
  | refine rd_ips ?_
  | refine ru_neg ?_
  | refine rx_lenT ?_
  | refine rx_lenL ?_
  | refine rx_abs ?_
  | refine rc_intI ?_
  | refine rc_intB ?_
  | refine rc_tupT ?_
  | refine rc_tupL ?_
  | refine rc_tupR ?_
  | refine rs_tup ?_
  | refine rs_lst ?_
  | refine w_fldO rfl (by assumption) (by assumption) rfl ?_
  | refine w_fldV rfl (by assumption) (by assumption) rfl ?_
  | refine w_fld ?_
  | refine Exists.intro _ (And.intro rfl ?_)
  | refine Exists.intro _ (Exists.intro _ (Exists.intro _ (Exists.intro _ (And.intro rfl (And.intro (by assumption) (And.intro (by assumption) (And.intro (by rfl) ?_)))))))
  | refine w_callI (dds := []) (fun _ => .nil) (Exists.intro _ rfl) ?_
  | refine w_callI0 (dds := []) (fun _ => .nil) (Exists.intro _ rfl) ?_
  | refine w_call (dds := []) (fun _ => .nil) ?_
  | refine w_call0 (dds := []) (fun _ => .nil) ?_
  | refine w_make (dds := []) (fun _ => .nil) ?_
  | refine w_make0 (dds := []) (fun _ => .nil) ?_
  | refine w_meth (dds := []) (fun _ => .nil) ?_
  | refine w_meth0 (dds := []) (fun _ => .nil) ?_
  | refine And.intro (small (by simp only [List.length_cons, List.length_nil]; omega)) ?_
  | refine Exists.intro _ (Exists.intro _ (And.intro rfl (And.intro (by decide) ?_)))
  | refine Or.inl (Exists.intro _ (And.intro rfl ?_))
  | refine Or.inr (Exists.intro _ (And.intro rfl ?_))
  | refine And.intro rfl ?_)
local macro_rules | `(tactic| walk_at "dl") => `(tactic| repeat (first | walk_at "d1" | (dsimp only [onx, rets, lpe, rets1, List.cons_append, List.nil_append])))

local macro_rules | `(tactic| walk_at "n1") => `(tactic| with_reducible first
  | refine s_seq ?_
  | refine iteT ?_
  | refine iteF ?_
  | refine s_asg ?_
  | refine g_nm rfl rfl ?_
  | refine s_ret ?_
  | refine s_next ?_
  | refine s_retN ?_
  | refine s_drop ?_
  | refine s_brk ?_
  | refine s_cont ?_
  | refine s_aug1 rfl rfl ?_
  | refine s_fldO ?_
  | refine Exists.intro _ (Exists.intro _ (Exists.intro _ (And.intro rfl (And.intro (by assumption) (And.intro (by assumption) (And.intro (by decide) ?_))))))
  | refine w_var rfl ?_
  | refine w_int ?_
  | refine w_str ?_
  | refine w_bl ?_
  | refine w_non ?_
  | refine t_cmp ?_
  | refine rd_ixO rfl rfl ?_
  | refine w_op ?_
  | refine w_un ?_
  | refine w_chain ?_
  | refine t_test ?_
  | refine t_B ?_
  | refine t_not ?_
  | refine t_and ?_
  | refine t_or ?_
  | refine w_andV ?_
  | refine w_orV ?_
  | refine w_notV ?_
  | refine w_tup ?_
  | refine w_lst ?_
  | refine w_isiInt ?_
  | refine w_rev ?_
  | refine w_cb ?_
  | refine w_sl ?_
  | refine w_join ?_
  | refine t_yes ?_
  | refine w_m1 ?_
  | refine rj_find ?_
  | refine rj_count ?_
  | refine w_joined ?_
  | refine a_nil ?_
  | refine a_cons ?_
  | refine o_none ?_
  | refine o_some ?_
  | refine g_tup rfl ?_
  | refine g_setO rfl rfl ?_
  | refine gs_nil ?_
  | refine gs_cons ?_
  | refine j_nil ?_
  | refine j_cons ?_
  | refine rd_lt ?_
  | refine rd_le ?_
  | refine rd_gt ?_
  | refine rd_ge ?_
  | refine rd_sub ?_
  | refine rd_mod (by first | decide | assumption) ?_
  | refine rd_div (by first | decide | (constructor <;> omega)) ?_
  | refine rd_mulR (by decide) ?_
  | refine rd_powC (by decide) ?_
  | refine rd_addI ?_
  | refine rd_eqI ?_
  | refine rd_neI ?_
  | refine rd_eqS ?_
  | refine rd_neS ?_
  | refine rd_eqB ?_
  | refine rd_neB ?_
  | refine rd_ipa ?_
  | refine rd_ips ?_
  | refine ru_neg ?_
  | refine rx_lenT ?_
  | refine rx_lenL ?_
  | refine rx_abs ?_
  | refine rc_intI ?_
  | refine rc_intB ?_
  | refine rc_tupT ?_
  | refine rc_tupL ?_
  | refine rc_tupR ?_
  | refine rs_tup ?_
  | refine rs_lst ?_
  | refine w_fldO rfl (by assumption) (by assumption) rfl ?_
  | refine w_fldV rfl (by assumption) (by assumption) rfl ?_
  | refine w_fld ?_
  | refine Exists.intro _ (And.intro rfl ?_)
  | refine Exists.intro _ (Exists.intro _ (Exists.intro _ (Exists.intro _ (And.intro rfl (And.intro (by assumption) (And.intro (by assumption) (And.intro (by rfl) ?_)))))))
  | refine w_callI (dds := []) (fun _ => .nil) (Exists.intro _ rfl) ?_
  | refine w_callI0 (dds := []) (fun _ => .nil) (Exists.intro _ rfl) ?_
  | refine w_call (dds := []) (fun _ => .nil) ?_
  | refine w_call0 (dds := []) (fun _ => .nil) ?_
  | refine w_make (dds := []) (fun _ => .nil) ?_
  | refine w_make0 (dds := []) (fun _ => .nil) ?_
  | refine w_meth (dds := []) (fun _ => .nil) ?_
  | refine w_meth0 (dds := []) (fun _ => .nil) ?_
  | refine And.intro (small (by simp only [List.length_cons, List.length_nil]; omega)) ?_
  | refine Exists.intro _ (Exists.intro _ (And.intro rfl (And.intro (by decide) ?_)))
  | refine Or.inl (Exists.intro _ (And.intro rfl ?_))
  | refine Or.inr (Exists.intro _ (And.intro rfl ?_))
  | refine And.intro rfl ?_)
local macro_rules | `(tactic| walk_at "nl") => `(tactic| repeat (first | walk_at "n1" | (dsimp only [onx, rets, lpe, rets1, List.cons_append, List.nil_append])))

local macro_rules | `(tactic| walk_at "f1") => `(tactic| with_reducible first
  | refine s_seq ?_
  | refine iteT ?_
  | refine iteF ?_
  | refine s_asg ?_
  | refine g_nm rfl rfl ?_
  | refine s_ifF ?_
  | refine s_ret ?_
  | refine s_next ?_
  | refine s_retN ?_
  | refine s_drop ?_
  | refine s_brk ?_
  | refine s_cont ?_
  | refine s_aug1 rfl rfl ?_
  | refine s_fldO ?_
  | refine Exists.intro _ (Exists.intro _ (Exists.intro _ (And.intro rfl (And.intro (by assumption) (And.intro (by assumption) (And.intro (by decide) ?_))))))
  | refine w_var rfl ?_
  | refine w_int ?_
  | refine w_str ?_
  | refine w_bl ?_
  | refine w_non ?_
  | refine t_cmp ?_
  | refine rd_ixO rfl rfl ?_
  | refine w_op ?_
  | refine w_un ?_
  | refine w_chain ?_
  | refine t_test ?_
  | refine t_B ?_
  | refine t_not ?_
  | refine t_and ?_
  | refine t_orF ?_
  | refine w_andV ?_
  | refine w_orV ?_
  | refine w_notV ?_
  | refine w_tup ?_
  | refine w_lst ?_
  | refine w_isiInt ?_
  | refine w_rev ?_
  | refine w_cb ?_
  | refine w_sl ?_
  | refine w_join ?_
  | refine t_yes ?_
  | refine w_m1 ?_
  | refine rj_find ?_
  | refine rj_count ?_
  | refine w_joined ?_
  | refine a_nil ?_
  | refine a_cons ?_
  | refine o_none ?_
  | refine o_some ?_
  | refine g_tup rfl ?_
  | refine g_setO rfl rfl ?_
  | refine gs_nil ?_
  | refine gs_cons ?_
  | refine j_nil ?_
  | refine j_cons ?_
  | refine rd_lt ?_
  | refine rd_le ?_
  | refine rd_gt ?_
  | refine rd_ge ?_
  | refine rd_sub ?_
  | refine rd_mod (by first | decide | assumption) ?_
  | refine rd_div (by first | decide | (constructor <;> omega)) ?_
  | refine rd_mulR (by decide) ?_
  | refine rd_powC (by decide) ?_
  | refine rd_addI ?_
  | refine rd_eqI ?_
  | refine rd_neI ?_
  | refine rd_eqS ?_
  | refine rd_neS ?_
  | refine rd_eqB ?_
  | refine rd_neB ?_
  | refine rd_ipa ?_
  | refine rd_ips ?_
  | refine ru_neg ?_
  | refine rx_lenT ?_
  | refine rx_lenL ?_
  | refine rx_abs ?_
  | refine rc_intI ?_
  | refine rc_intB ?_
  | refine rc_tupT ?_
  | refine rc_tupL ?_
  | refine rc_tupR ?_
  | refine rs_tup ?_
  | refine rs_lst ?_
  | refine w_fldO rfl (by assumption) (by assumption) rfl ?_
  | refine w_fldV rfl (by assumption) (by assumption) rfl ?_
  | refine w_fld ?_
  | refine Exists.intro _ (And.intro rfl ?_)
  | refine Exists.intro _ (Exists.intro _ (Exists.intro _ (Exists.intro _ (And.intro rfl (And.intro (by assumption) (And.intro (by assumption) (And.intro (by rfl) ?_)))))))
  | refine w_callI (dds := []) (fun _ => .nil) (Exists.intro _ rfl) ?_
  | refine w_callI0 (dds := []) (fun _ => .nil) (Exists.intro _ rfl) ?_
  | refine w_call (dds := []) (fun _ => .nil) ?_
  | refine w_call0 (dds := []) (fun _ => .nil) ?_
  | refine w_make (dds := []) (fun _ => .nil) ?_
  | refine w_make0 (dds := []) (fun _ => .nil) ?_
  | refine w_meth (dds := []) (fun _ => .nil) ?_
  | refine w_meth0 (dds := []) (fun _ => .nil) ?_
  | refine And.intro (small (by simp only [List.length_cons, List.length_nil]; omega)) ?_
  | refine Exists.intro _ (Exists.intro _ (And.intro rfl (And.intro (by decide) ?_)))
  | refine Or.inl (Exists.intro _ (And.intro rfl ?_))
  | refine Or.inr (Exists.intro _ (And.intro rfl ?_))
  | refine And.intro rfl ?_)
local macro_rules | `(tactic| walk_at "fl") => `(tactic| repeat (first | walk_at "f1" | (dsimp only [onx, rets, lpe, rets1, List.cons_append, List.nil_append])))

open PySem.Spec PyProof.Rows
abbrev Tbl (P1 P2 : Addr) : TbT := ⟨[(P1, ("told_tape" : Str) ++ ".<locals>." ++ "<genexpr>"), (P2, ("law" : Str) ++ ".<locals>." ++ "<lambda>")], []⟩
theorem bindNn {n : Nat} {us : List Value} (h : us.length = n) : us.length = n := h
theorem hds_told {mg : Str → Option Value} {C_BadMachine : Addr} {C_BadTape : Addr} {C_BadTerm : Addr} {C_BadPaper : Addr} {C_BadSize : Addr} {C_BadText : Addr} {C_BadStore : Addr} {C_NoEnd : Addr} {C_NoSuch : Addr}
    (b_BadMachine : mg "BadMachine" = some (.ref C_BadMachine)) (b_BadTape : mg "BadTape" = some (.ref C_BadTape)) (b_BadTerm : mg "BadTerm" = some (.ref C_BadTerm)) (b_BadPaper : mg "BadPaper" = some (.ref C_BadPaper)) (b_BadSize : mg "BadSize" = some (.ref C_BadSize)) (b_BadText : mg "BadText" = some (.ref C_BadText)) (b_BadStore : mg "BadStore" = some (.ref C_BadStore)) (b_NoEnd : mg "NoEnd" = some (.ref C_NoEnd)) (b_NoSuch : mg "NoSuch" = some (.ref C_NoSuch)) : ∀ X : Cx, X.mg = mg → X.env.scope = defScope s_law_told → HdsOk X (toldH0 :: toldH.drop 1) (cls2 [(C_BadMachine, "machine"), (C_BadTape, "tape"), (C_BadTerm, "term"), (C_BadPaper, "paper"), (C_BadSize, "size"), (C_BadText, "text"), (C_BadStore, "store"), (C_NoEnd, "no end"), (C_NoSuch, "no such")]) := by
  intro X hm hs
  exact (.cons ⟨by show X.env.scope.names.lookup _ = _; rw [hs]; rfl, by decide, .inl (by rw [hm]; exact b_BadMachine)⟩ (fun _ _ _ _ _ _ _ => pss_one (ps_ret pe_str)) (.cons ⟨by show X.env.scope.names.lookup _ = _; rw [hs]; rfl, by decide, .inl (by rw [hm]; exact b_BadTape)⟩ (fun _ _ _ _ _ _ _ => pss_one (ps_ret pe_str)) (.cons ⟨by show X.env.scope.names.lookup _ = _; rw [hs]; rfl, by decide, .inl (by rw [hm]; exact b_BadTerm)⟩ (fun _ _ _ _ _ _ _ => pss_one (ps_ret pe_str)) (.cons ⟨by show X.env.scope.names.lookup _ = _; rw [hs]; rfl, by decide, .inl (by rw [hm]; exact b_BadPaper)⟩ (fun _ _ _ _ _ _ _ => pss_one (ps_ret pe_str)) (.cons ⟨by show X.env.scope.names.lookup _ = _; rw [hs]; rfl, by decide, .inl (by rw [hm]; exact b_BadSize)⟩ (fun _ _ _ _ _ _ _ => pss_one (ps_ret pe_str)) (.cons ⟨by show X.env.scope.names.lookup _ = _; rw [hs]; rfl, by decide, .inl (by rw [hm]; exact b_BadText)⟩ (fun _ _ _ _ _ _ _ => pss_one (ps_ret pe_str)) (.cons ⟨by show X.env.scope.names.lookup _ = _; rw [hs]; rfl, by decide, .inl (by rw [hm]; exact b_BadStore)⟩ (fun _ _ _ _ _ _ _ => pss_one (ps_ret pe_str)) (.cons ⟨by show X.env.scope.names.lookup _ = _; rw [hs]; rfl, by decide, .inl (by rw [hm]; exact b_NoEnd)⟩ (fun _ _ _ _ _ _ _ => pss_one (ps_ret pe_str)) (.cons ⟨by show X.env.scope.names.lookup _ = _; rw [hs]; rfl, by decide, .inl (by rw [hm]; exact b_NoSuch)⟩ (fun _ _ _ _ _ _ _ => pss_one (ps_ret pe_str)) .nil)))))))))
theorem bn_Tape_write : BindN P_Tape_write "write" "Tape.write" s_Tape_write := fun _ _ _ _ _ _ us hl => match us, hl with | [_, _], _ => rfl
theorem bn_Tape_move : BindN P_Tape_move "move" "Tape.move" s_Tape_move := fun _ _ _ _ _ _ us hl => match us, hl with | [_, _], _ => rfl
theorem bn_Tape_at : BindN P_Tape_at "at" "Tape.at" s_Tape_at := fun _ _ _ _ _ _ us hl => match us, hl with | [_, _], _ => rfl
theorem bn_Tape_ones : BindN P_Tape_ones "ones" "Tape.ones" s_Tape_ones := fun _ _ _ _ _ _ us hl => match us, hl with | [_], _ => rfl
theorem bn_Tape_span : BindN P_Tape_span "span" "Tape.span" s_Tape_span := fun _ _ _ _ _ _ us hl => match us, hl with | [_], _ => rfl
theorem bn_Tape_word : BindN P_Tape_word "word" "Tape.word" s_Tape_word := fun _ _ _ _ _ _ us hl => match us, hl with | [_], _ => rfl
theorem bn_Tape_shown : BindN P_Tape_shown "shown" "Tape.shown" s_Tape_shown := fun _ _ _ _ _ _ us hl => match us, hl with | [_], _ => rfl
theorem bn_trimmed : BindN P_trimmed "trimmed" "trimmed" s_trimmed := fun _ _ _ _ _ _ us hl => match us, hl with | [_], _ => rfl
theorem bn_first_of : BindN P_first_of "first_of" "first_of" s_first_of := fun _ _ _ _ _ _ us hl => match us, hl with | [_], _ => rfl
theorem bn_told_tape : BindN P_told_tape "told_tape" "told_tape" s_told_tape := fun _ _ _ _ _ _ us hl => match us, hl with | [_], _ => rfl
theorem bn_read_tape : BindN P_read_tape "read_tape" "read_tape" s_read_tape := fun _ _ _ _ _ _ us hl => match us, hl with | [_], _ => rfl
theorem bn_signs_in : BindN P_signs_in "signs_in" "signs_in" s_signs_in := fun _ _ _ _ _ _ us hl => match us, hl with | [_], _ => rfl
theorem bn_turned_tape : BindN P_turned_tape "turned_tape" "turned_tape" s_turned_tape := fun _ _ _ _ _ _ us hl => match us, hl with | [_], _ => rfl
theorem bn_law_dice : BindN P_law_dice "_law_dice" "_law_dice" s_law_dice := fun _ _ _ _ _ _ us hl => match us, hl with | [_], _ => rfl
theorem bn_law_roll : BindN P_law_roll "_law_roll" "_law_roll" s_law_roll := fun _ _ _ _ _ _ us hl => match us, hl with | [_, _], _ => rfl
theorem bn_law_rounds : BindN P_law_rounds "_law_rounds" "_law_rounds" s_law_rounds := fun _ _ _ _ _ _ us hl => match us, hl with | [_, _], _ => rfl
theorem bn_law_told : BindN P_law_told "_law_told" "_law_told" s_law_told := fun _ _ _ _ _ _ us hl => match us, hl with | [_], _ => rfl
theorem bn_law_tape : BindN P_law_tape "_law_tape" "_law_tape" s_law_tape := fun _ _ _ _ _ _ us hl => match us, hl with | [_, _, _], _ => rfl
theorem bn_law_same : BindN P_law_same "_law_same" "_law_same" s_law_same := fun _ _ _ _ _ _ us hl => match us, hl with | [_, _, _], _ => rfl
theorem bn_law : BindN P_law "law" "law" s_law := fun _ _ _ _ _ _ us hl => match us, hl with | [_], _ => rfl

theorem bd_of_word {K : PySem.W.Frag} {f : Addr} {fd : FuncData} (F : FunD K "of_word" "of_word" (defArgs s_of_word) (defBody s_of_word) (defScope s_of_word) [.int 0] [] f fd) : ∀ j, j ≤ [V.int 0].length → ∃ ds, Vals ([V.int 0].drop j) ds ∧ Binds K fd P_of_word ds := fun j hj => by
  match j, hj with
  | 0, _ => exact F.binds1 1 0 (by simp) rfl fun T kV doc pm an cdv ct us its h1 h2 => match us, its, h1, h2 with | [_], [_], _, _ => ⟨_, rfl, rfl⟩
  | 1, _ => exact F.binds1 2 1 (by simp) rfl fun T kV doc pm an cdv ct us its h1 h2 => match us, its, h1, h2 with | [_, _], [_], _, _ => ⟨_, rfl, rfl⟩
theorem bd_init {K : PySem.W.Frag} {d1 d3 : V} {f : Addr} {fd : FuncData} (F : FunD K "__init__" "Tape.__init__" (defArgs s_Tape_init) (defBody s_Tape_init) (defScope s_Tape_init) [d1, .int 0, d3] [] f fd) : ∀ j, j ≤ [d1, V.int 0, d3].length → ∃ ds, Vals ([d1, V.int 0, d3].drop j) ds ∧ Binds K fd P_Tape_init ds := fun j hj => by
  match j, hj with
  | 0, _ => exact F.binds1 1 0 (by simp) rfl fun T kV doc pm an cdv ct us its h1 h2 => match us, its, h1, h2 with | [_], [_, _, _], _, _ => ⟨_, rfl, rfl⟩
  | 1, _ => exact F.binds1 2 1 (by simp) rfl fun T kV doc pm an cdv ct us its h1 h2 => match us, its, h1, h2 with | [_, _], [_, _, _], _, _ => ⟨_, rfl, rfl⟩
  | 2, _ => exact F.binds1 3 2 (by simp) rfl fun T kV doc pm an cdv ct us its h1 h2 => match us, its, h1, h2 with | [_, _, _], [_, _, _], _, _ => ⟨_, rfl, rfl⟩
  | 3, _ => exact F.binds1 4 3 (by simp) rfl fun T kV doc pm an cdv ct us its h1 h2 => match us, its, h1, h2 with | [_, _, _, _], [_, _, _], _, _ => ⟨_, rfl, rfl⟩

theorem fin {K : PySem.W.Frag} {h : Heap} {mg : Str → Option Value} {fa : Addr} {w : World} {q : Program} {C_MachineFault : Addr} {C_BadMachine : Addr} {C_BadTape : Addr} {C_BadTerm : Addr} {C_BadPaper : Addr} {C_BadSize : Addr} {C_BadText : Addr} {C_BadStore : Addr} {C_NoEnd : Addr} {C_NoSuch : Addr} {C_Tape : Addr} {e1 e3 : Addr} {f_Tape_init : Addr} {od_Tape_init an_Tape_init : Option Addr} {sl_Tape_init : Array (Option Value)} {oc_Tape_init dV_Tape_init kV_Tape_init dc_Tape_init pmv_Tape_init cd_Tape_init ct_Tape_init : Value} {f_Tape_write : Addr} {od_Tape_write an_Tape_write : Option Addr} {sl_Tape_write : Array (Option Value)} {oc_Tape_write dV_Tape_write kV_Tape_write dc_Tape_write pmv_Tape_write cd_Tape_write ct_Tape_write : Value} {f_Tape_move : Addr} {od_Tape_move an_Tape_move : Option Addr} {sl_Tape_move : Array (Option Value)} {oc_Tape_move dV_Tape_move kV_Tape_move dc_Tape_move pmv_Tape_move cd_Tape_move ct_Tape_move : Value} {f_Tape_at : Addr} {od_Tape_at an_Tape_at : Option Addr} {sl_Tape_at : Array (Option Value)} {oc_Tape_at dV_Tape_at kV_Tape_at dc_Tape_at pmv_Tape_at cd_Tape_at ct_Tape_at : Value} {f_Tape_ones : Addr} {od_Tape_ones an_Tape_ones : Option Addr} {sl_Tape_ones : Array (Option Value)} {oc_Tape_ones dV_Tape_ones kV_Tape_ones dc_Tape_ones pmv_Tape_ones cd_Tape_ones ct_Tape_ones : Value} {f_Tape_span : Addr} {od_Tape_span an_Tape_span : Option Addr} {sl_Tape_span : Array (Option Value)} {oc_Tape_span dV_Tape_span kV_Tape_span dc_Tape_span pmv_Tape_span cd_Tape_span ct_Tape_span : Value} {f_Tape_word : Addr} {od_Tape_word an_Tape_word : Option Addr} {sl_Tape_word : Array (Option Value)} {oc_Tape_word dV_Tape_word kV_Tape_word dc_Tape_word pmv_Tape_word cd_Tape_word ct_Tape_word : Value} {f_Tape_shown : Addr} {od_Tape_shown an_Tape_shown : Option Addr} {sl_Tape_shown : Array (Option Value)} {oc_Tape_shown dV_Tape_shown kV_Tape_shown dc_Tape_shown pmv_Tape_shown cd_Tape_shown ct_Tape_shown : Value} {f_trimmed : Addr} {od_trimmed an_trimmed : Option Addr} {sl_trimmed : Array (Option Value)} {oc_trimmed dV_trimmed kV_trimmed dc_trimmed pmv_trimmed cd_trimmed ct_trimmed : Value} {f_first_of : Addr} {od_first_of an_first_of : Option Addr} {sl_first_of : Array (Option Value)} {oc_first_of dV_first_of kV_first_of dc_first_of pmv_first_of cd_first_of ct_first_of : Value} {f_of_word : Addr} {od_of_word an_of_word : Option Addr} {sl_of_word : Array (Option Value)} {oc_of_word dV_of_word kV_of_word dc_of_word pmv_of_word cd_of_word ct_of_word : Value} {f_told_tape : Addr} {od_told_tape an_told_tape : Option Addr} {sl_told_tape : Array (Option Value)} {oc_told_tape dV_told_tape kV_told_tape dc_told_tape pmv_told_tape cd_told_tape ct_told_tape : Value} {f_read_tape : Addr} {od_read_tape an_read_tape : Option Addr} {sl_read_tape : Array (Option Value)} {oc_read_tape dV_read_tape kV_read_tape dc_read_tape pmv_read_tape cd_read_tape ct_read_tape : Value} {f_signs_in : Addr} {od_signs_in an_signs_in : Option Addr} {sl_signs_in : Array (Option Value)} {oc_signs_in dV_signs_in kV_signs_in dc_signs_in pmv_signs_in cd_signs_in ct_signs_in : Value} {f_turned_tape : Addr} {od_turned_tape an_turned_tape : Option Addr} {sl_turned_tape : Array (Option Value)} {oc_turned_tape dV_turned_tape kV_turned_tape dc_turned_tape pmv_turned_tape cd_turned_tape ct_turned_tape : Value} {f_law_dice : Addr} {od_law_dice an_law_dice : Option Addr} {sl_law_dice : Array (Option Value)} {oc_law_dice dV_law_dice kV_law_dice dc_law_dice pmv_law_dice cd_law_dice ct_law_dice : Value} {f_law_roll : Addr} {od_law_roll an_law_roll : Option Addr} {sl_law_roll : Array (Option Value)} {oc_law_roll dV_law_roll kV_law_roll dc_law_roll pmv_law_roll cd_law_roll ct_law_roll : Value} {f_law_rounds : Addr} {od_law_rounds an_law_rounds : Option Addr} {sl_law_rounds : Array (Option Value)} {oc_law_rounds dV_law_rounds kV_law_rounds dc_law_rounds pmv_law_rounds cd_law_rounds ct_law_rounds : Value} {f_law_told : Addr} {od_law_told an_law_told : Option Addr} {sl_law_told : Array (Option Value)} {oc_law_told dV_law_told kV_law_told dc_law_told pmv_law_told cd_law_told ct_law_told : Value} {f_law_tape : Addr} {od_law_tape an_law_tape : Option Addr} {sl_law_tape : Array (Option Value)} {oc_law_tape dV_law_tape kV_law_tape dc_law_tape pmv_law_tape cd_law_tape ct_law_tape : Value} {f_law_same : Addr} {od_law_same an_law_same : Option Addr} {sl_law_same : Array (Option Value)} {oc_law_same dV_law_same kV_law_same dc_law_same pmv_law_same cd_law_same ct_law_same : Value} {f_law : Addr} {od_law an_law : Option Addr} {sl_law : Array (Option Value)} {oc_law dV_law kV_law dc_law pmv_law cd_law ct_law : Value} {tkF : Tok} {dd1 dd2 : DefRec} {cc_told_tape Pt_told_tape : Addr} {vs_told_tape : Array Value} {x1_told_tape : Value} {x2_told_tape : Option Addr} {x3_told_tape : Array (Option Value)} {cc_law Pt_law : Addr} {vs_law : Array Value} {x1_law : Value} {x2_law : Option Addr} {x3_law : Array (Option Value)}
    (KX : K.In h) (G : h.Ns mainGlobals mg) (tb : ∀ (y : Str) (e : DefRec) (c P : Addr), (recsOf q).find? (fun r => r.name == y) = some e → PySem.W.tabIn K y = some (c, P) → PySem.W.CodeHd h c P ∧ h.get? P = some { cls := .none, data := .fields #[] }) (hfa : mg "law" = some (.ref fa))
    (a_MachineFault : PySem.W.nsIn K mainGlobals "MachineFault" = some (some (.ref C_MachineFault)))
    (a_BadMachine : PySem.W.nsIn K mainGlobals "BadMachine" = some (some (.ref C_BadMachine)))
    (a_BadTape : PySem.W.nsIn K mainGlobals "BadTape" = some (some (.ref C_BadTape)))
    (q_BadTape : PySem.W.excIn K C_BadTape [.type "ValueError", .type "Exception", .type "BaseException", .type "object"] "ValueError.__new__" = true)
    (k_BadTape : PySem.W.keepIn K (.ref C_BadTape) = true)
    (b_BadTape : PySem.W.subIn K (.ref C_BadTape) (.type "BaseException") = some true)
    (t_BadTape : PySem.W.typeIn K (.ref C_BadTape) = some (.type "type"))
    (a_BadTerm : PySem.W.nsIn K mainGlobals "BadTerm" = some (some (.ref C_BadTerm)))
    (a_BadPaper : PySem.W.nsIn K mainGlobals "BadPaper" = some (some (.ref C_BadPaper)))
    (a_BadSize : PySem.W.nsIn K mainGlobals "BadSize" = some (some (.ref C_BadSize)))
    (a_BadText : PySem.W.nsIn K mainGlobals "BadText" = some (some (.ref C_BadText)))
    (a_BadStore : PySem.W.nsIn K mainGlobals "BadStore" = some (some (.ref C_BadStore)))
    (a_NoEnd : PySem.W.nsIn K mainGlobals "NoEnd" = some (some (.ref C_NoEnd)))
    (a_NoSuch : PySem.W.nsIn K mainGlobals "NoSuch" = some (some (.ref C_NoSuch)))
    (a_Tape : PySem.W.nsIn K mainGlobals "Tape" = some (some (.ref C_Tape)))
    (pg_Tape : PySem.W.plainGet K C_Tape Str.empty = true)
    (hd_Tape : PySem.W.hasDictIn K C_Tape = true)
    (po_Tape : PySem.W.plainOver K C_Tape = true)
    (sa_Tape : PySem.W.findIn K (.ref C_Tape) "__setattr__" = some (some (.builtin "object.__setattr__")))
    (mk_Tape : PySem.W.makesIn K C_Tape = true)
    (kc_Tape : PySem.W.keepIn K (.ref C_Tape) = true)
    (ne1_Tape : PySem.W.findIn K (.ref C_Tape) "__eq__" = some (some (.builtin "object.__eq__")))
    (ne2_Tape : PySem.W.findIn K (.ref C_Tape) "__ne__" = some (some (.builtin "object.__ne__")))
    (ne3_Tape : PySem.W.subIn K (.type "str") (.ref C_Tape) = some false)
    (ne4_Tape : PySem.W.mroIn K C_Tape (.type "object") = some true)
    (n_Tape_left : PySem.W.findIn K (.ref C_Tape) "left" = some none)
    (n_Tape_here : PySem.W.findIn K (.ref C_Tape) "here" = some none)
    (n_Tape_right : PySem.W.findIn K (.ref C_Tape) "right" = some none)
    (a_Tape_init : PySem.W.findIn K (.ref C_Tape) "__init__" = some (some (.ref f_Tape_init)))
    (i_Tape_init : PySem.W.isFn K (.ref f_Tape_init) = true)
    (l_Tape_init : K.lookup f_Tape_init = some ⟨oc_Tape_init, od_Tape_init, .func (PySem.W.fnOf "__init__" "Tape.__init__" (defArgs s_Tape_init) (defBody s_Tape_init) (defScope s_Tape_init) dV_Tape_init kV_Tape_init dc_Tape_init pmv_Tape_init an_Tape_init cd_Tape_init ct_Tape_init), sl_Tape_init⟩)
    (c_Tape_init : PySem.W.codeIn K cd_Tape_init "Tape.__init__" = true)
    (k_Tape_init : PySem.W.keepIn K (.ref f_Tape_init) = true)
    (d_Tape_init : DflV K dV_Tape_init [.ref e1, .int 0, .ref e3])
    (a_Tape_write : PySem.W.findIn K (.ref C_Tape) "write" = some (some (.ref f_Tape_write)))
    (i_Tape_write : PySem.W.isFn K (.ref f_Tape_write) = true)
    (l_Tape_write : K.lookup f_Tape_write = some ⟨oc_Tape_write, od_Tape_write, .func (PySem.W.fnOf "write" "Tape.write" (defArgs s_Tape_write) (defBody s_Tape_write) (defScope s_Tape_write) dV_Tape_write kV_Tape_write dc_Tape_write pmv_Tape_write an_Tape_write cd_Tape_write ct_Tape_write), sl_Tape_write⟩)
    (c_Tape_write : PySem.W.codeIn K cd_Tape_write "Tape.write" = true)
    (k_Tape_write : PySem.W.keepIn K (.ref f_Tape_write) = true)
    (d_Tape_write : dV_Tape_write = .none)
    (a_Tape_move : PySem.W.findIn K (.ref C_Tape) "move" = some (some (.ref f_Tape_move)))
    (i_Tape_move : PySem.W.isFn K (.ref f_Tape_move) = true)
    (l_Tape_move : K.lookup f_Tape_move = some ⟨oc_Tape_move, od_Tape_move, .func (PySem.W.fnOf "move" "Tape.move" (defArgs s_Tape_move) (defBody s_Tape_move) (defScope s_Tape_move) dV_Tape_move kV_Tape_move dc_Tape_move pmv_Tape_move an_Tape_move cd_Tape_move ct_Tape_move), sl_Tape_move⟩)
    (c_Tape_move : PySem.W.codeIn K cd_Tape_move "Tape.move" = true)
    (k_Tape_move : PySem.W.keepIn K (.ref f_Tape_move) = true)
    (d_Tape_move : dV_Tape_move = .none)
    (a_Tape_at : PySem.W.findIn K (.ref C_Tape) "at" = some (some (.ref f_Tape_at)))
    (i_Tape_at : PySem.W.isFn K (.ref f_Tape_at) = true)
    (l_Tape_at : K.lookup f_Tape_at = some ⟨oc_Tape_at, od_Tape_at, .func (PySem.W.fnOf "at" "Tape.at" (defArgs s_Tape_at) (defBody s_Tape_at) (defScope s_Tape_at) dV_Tape_at kV_Tape_at dc_Tape_at pmv_Tape_at an_Tape_at cd_Tape_at ct_Tape_at), sl_Tape_at⟩)
    (c_Tape_at : PySem.W.codeIn K cd_Tape_at "Tape.at" = true)
    (k_Tape_at : PySem.W.keepIn K (.ref f_Tape_at) = true)
    (d_Tape_at : dV_Tape_at = .none)
    (a_Tape_ones : PySem.W.findIn K (.ref C_Tape) "ones" = some (some (.ref f_Tape_ones)))
    (i_Tape_ones : PySem.W.isFn K (.ref f_Tape_ones) = true)
    (l_Tape_ones : K.lookup f_Tape_ones = some ⟨oc_Tape_ones, od_Tape_ones, .func (PySem.W.fnOf "ones" "Tape.ones" (defArgs s_Tape_ones) (defBody s_Tape_ones) (defScope s_Tape_ones) dV_Tape_ones kV_Tape_ones dc_Tape_ones pmv_Tape_ones an_Tape_ones cd_Tape_ones ct_Tape_ones), sl_Tape_ones⟩)
    (c_Tape_ones : PySem.W.codeIn K cd_Tape_ones "Tape.ones" = true)
    (k_Tape_ones : PySem.W.keepIn K (.ref f_Tape_ones) = true)
    (d_Tape_ones : dV_Tape_ones = .none)
    (a_Tape_span : PySem.W.findIn K (.ref C_Tape) "span" = some (some (.ref f_Tape_span)))
    (i_Tape_span : PySem.W.isFn K (.ref f_Tape_span) = true)
    (l_Tape_span : K.lookup f_Tape_span = some ⟨oc_Tape_span, od_Tape_span, .func (PySem.W.fnOf "span" "Tape.span" (defArgs s_Tape_span) (defBody s_Tape_span) (defScope s_Tape_span) dV_Tape_span kV_Tape_span dc_Tape_span pmv_Tape_span an_Tape_span cd_Tape_span ct_Tape_span), sl_Tape_span⟩)
    (c_Tape_span : PySem.W.codeIn K cd_Tape_span "Tape.span" = true)
    (k_Tape_span : PySem.W.keepIn K (.ref f_Tape_span) = true)
    (d_Tape_span : dV_Tape_span = .none)
    (a_Tape_word : PySem.W.findIn K (.ref C_Tape) "word" = some (some (.ref f_Tape_word)))
    (i_Tape_word : PySem.W.isFn K (.ref f_Tape_word) = true)
    (l_Tape_word : K.lookup f_Tape_word = some ⟨oc_Tape_word, od_Tape_word, .func (PySem.W.fnOf "word" "Tape.word" (defArgs s_Tape_word) (defBody s_Tape_word) (defScope s_Tape_word) dV_Tape_word kV_Tape_word dc_Tape_word pmv_Tape_word an_Tape_word cd_Tape_word ct_Tape_word), sl_Tape_word⟩)
    (c_Tape_word : PySem.W.codeIn K cd_Tape_word "Tape.word" = true)
    (k_Tape_word : PySem.W.keepIn K (.ref f_Tape_word) = true)
    (d_Tape_word : dV_Tape_word = .none)
    (a_Tape_shown : PySem.W.findIn K (.ref C_Tape) "shown" = some (some (.ref f_Tape_shown)))
    (i_Tape_shown : PySem.W.isFn K (.ref f_Tape_shown) = true)
    (l_Tape_shown : K.lookup f_Tape_shown = some ⟨oc_Tape_shown, od_Tape_shown, .func (PySem.W.fnOf "shown" "Tape.shown" (defArgs s_Tape_shown) (defBody s_Tape_shown) (defScope s_Tape_shown) dV_Tape_shown kV_Tape_shown dc_Tape_shown pmv_Tape_shown an_Tape_shown cd_Tape_shown ct_Tape_shown), sl_Tape_shown⟩)
    (c_Tape_shown : PySem.W.codeIn K cd_Tape_shown "Tape.shown" = true)
    (k_Tape_shown : PySem.W.keepIn K (.ref f_Tape_shown) = true)
    (d_Tape_shown : dV_Tape_shown = .none)
    (a_trimmed : PySem.W.nsIn K mainGlobals "trimmed" = some (some (.ref f_trimmed)))
    (l_trimmed : K.lookup f_trimmed = some ⟨oc_trimmed, od_trimmed, .func (PySem.W.fnOf "trimmed" "trimmed" (defArgs s_trimmed) (defBody s_trimmed) (defScope s_trimmed) dV_trimmed kV_trimmed dc_trimmed pmv_trimmed an_trimmed cd_trimmed ct_trimmed), sl_trimmed⟩)
    (c_trimmed : PySem.W.codeIn K cd_trimmed "trimmed" = true)
    (k_trimmed : PySem.W.keepIn K (.ref f_trimmed) = true)
    (d_trimmed : dV_trimmed = .none)
    (a_first_of : PySem.W.nsIn K mainGlobals "first_of" = some (some (.ref f_first_of)))
    (l_first_of : K.lookup f_first_of = some ⟨oc_first_of, od_first_of, .func (PySem.W.fnOf "first_of" "first_of" (defArgs s_first_of) (defBody s_first_of) (defScope s_first_of) dV_first_of kV_first_of dc_first_of pmv_first_of an_first_of cd_first_of ct_first_of), sl_first_of⟩)
    (c_first_of : PySem.W.codeIn K cd_first_of "first_of" = true)
    (k_first_of : PySem.W.keepIn K (.ref f_first_of) = true)
    (d_first_of : dV_first_of = .none)
    (a_of_word : PySem.W.nsIn K mainGlobals "of_word" = some (some (.ref f_of_word)))
    (l_of_word : K.lookup f_of_word = some ⟨oc_of_word, od_of_word, .func (PySem.W.fnOf "of_word" "of_word" (defArgs s_of_word) (defBody s_of_word) (defScope s_of_word) dV_of_word kV_of_word dc_of_word pmv_of_word an_of_word cd_of_word ct_of_word), sl_of_word⟩)
    (c_of_word : PySem.W.codeIn K cd_of_word "of_word" = true)
    (k_of_word : PySem.W.keepIn K (.ref f_of_word) = true)
    (d_of_word : DflV K dV_of_word [.int 0])
    (a_told_tape : PySem.W.nsIn K mainGlobals "told_tape" = some (some (.ref f_told_tape)))
    (l_told_tape : K.lookup f_told_tape = some ⟨oc_told_tape, od_told_tape, .func (PySem.W.fnOf "told_tape" "told_tape" (defArgs s_told_tape) (defBody s_told_tape) (defScope s_told_tape) dV_told_tape kV_told_tape dc_told_tape pmv_told_tape an_told_tape cd_told_tape ct_told_tape), sl_told_tape⟩)
    (c_told_tape : PySem.W.codeIn K cd_told_tape "told_tape" = true)
    (k_told_tape : PySem.W.keepIn K (.ref f_told_tape) = true)
    (d_told_tape : dV_told_tape = .none)
    (a_read_tape : PySem.W.nsIn K mainGlobals "read_tape" = some (some (.ref f_read_tape)))
    (l_read_tape : K.lookup f_read_tape = some ⟨oc_read_tape, od_read_tape, .func (PySem.W.fnOf "read_tape" "read_tape" (defArgs s_read_tape) (defBody s_read_tape) (defScope s_read_tape) dV_read_tape kV_read_tape dc_read_tape pmv_read_tape an_read_tape cd_read_tape ct_read_tape), sl_read_tape⟩)
    (c_read_tape : PySem.W.codeIn K cd_read_tape "read_tape" = true)
    (k_read_tape : PySem.W.keepIn K (.ref f_read_tape) = true)
    (d_read_tape : dV_read_tape = .none)
    (a_signs_in : PySem.W.nsIn K mainGlobals "signs_in" = some (some (.ref f_signs_in)))
    (l_signs_in : K.lookup f_signs_in = some ⟨oc_signs_in, od_signs_in, .func (PySem.W.fnOf "signs_in" "signs_in" (defArgs s_signs_in) (defBody s_signs_in) (defScope s_signs_in) dV_signs_in kV_signs_in dc_signs_in pmv_signs_in an_signs_in cd_signs_in ct_signs_in), sl_signs_in⟩)
    (c_signs_in : PySem.W.codeIn K cd_signs_in "signs_in" = true)
    (k_signs_in : PySem.W.keepIn K (.ref f_signs_in) = true)
    (d_signs_in : dV_signs_in = .none)
    (a_turned_tape : PySem.W.nsIn K mainGlobals "turned_tape" = some (some (.ref f_turned_tape)))
    (l_turned_tape : K.lookup f_turned_tape = some ⟨oc_turned_tape, od_turned_tape, .func (PySem.W.fnOf "turned_tape" "turned_tape" (defArgs s_turned_tape) (defBody s_turned_tape) (defScope s_turned_tape) dV_turned_tape kV_turned_tape dc_turned_tape pmv_turned_tape an_turned_tape cd_turned_tape ct_turned_tape), sl_turned_tape⟩)
    (c_turned_tape : PySem.W.codeIn K cd_turned_tape "turned_tape" = true)
    (k_turned_tape : PySem.W.keepIn K (.ref f_turned_tape) = true)
    (d_turned_tape : dV_turned_tape = .none)
    (a_law_dice : PySem.W.nsIn K mainGlobals "_law_dice" = some (some (.ref f_law_dice)))
    (l_law_dice : K.lookup f_law_dice = some ⟨oc_law_dice, od_law_dice, .func (PySem.W.fnOf "_law_dice" "_law_dice" (defArgs s_law_dice) (defBody s_law_dice) (defScope s_law_dice) dV_law_dice kV_law_dice dc_law_dice pmv_law_dice an_law_dice cd_law_dice ct_law_dice), sl_law_dice⟩)
    (c_law_dice : PySem.W.codeIn K cd_law_dice "_law_dice" = true)
    (k_law_dice : PySem.W.keepIn K (.ref f_law_dice) = true)
    (d_law_dice : dV_law_dice = .none)
    (a_law_roll : PySem.W.nsIn K mainGlobals "_law_roll" = some (some (.ref f_law_roll)))
    (l_law_roll : K.lookup f_law_roll = some ⟨oc_law_roll, od_law_roll, .func (PySem.W.fnOf "_law_roll" "_law_roll" (defArgs s_law_roll) (defBody s_law_roll) (defScope s_law_roll) dV_law_roll kV_law_roll dc_law_roll pmv_law_roll an_law_roll cd_law_roll ct_law_roll), sl_law_roll⟩)
    (c_law_roll : PySem.W.codeIn K cd_law_roll "_law_roll" = true)
    (k_law_roll : PySem.W.keepIn K (.ref f_law_roll) = true)
    (d_law_roll : dV_law_roll = .none)
    (a_law_rounds : PySem.W.nsIn K mainGlobals "_law_rounds" = some (some (.ref f_law_rounds)))
    (l_law_rounds : K.lookup f_law_rounds = some ⟨oc_law_rounds, od_law_rounds, .func (PySem.W.fnOf "_law_rounds" "_law_rounds" (defArgs s_law_rounds) (defBody s_law_rounds) (defScope s_law_rounds) dV_law_rounds kV_law_rounds dc_law_rounds pmv_law_rounds an_law_rounds cd_law_rounds ct_law_rounds), sl_law_rounds⟩)
    (c_law_rounds : PySem.W.codeIn K cd_law_rounds "_law_rounds" = true)
    (k_law_rounds : PySem.W.keepIn K (.ref f_law_rounds) = true)
    (d_law_rounds : dV_law_rounds = .none)
    (a_law_told : PySem.W.nsIn K mainGlobals "_law_told" = some (some (.ref f_law_told)))
    (l_law_told : K.lookup f_law_told = some ⟨oc_law_told, od_law_told, .func (PySem.W.fnOf "_law_told" "_law_told" (defArgs s_law_told) (defBody s_law_told) (defScope s_law_told) dV_law_told kV_law_told dc_law_told pmv_law_told an_law_told cd_law_told ct_law_told), sl_law_told⟩)
    (c_law_told : PySem.W.codeIn K cd_law_told "_law_told" = true)
    (k_law_told : PySem.W.keepIn K (.ref f_law_told) = true)
    (d_law_told : dV_law_told = .none)
    (a_law_tape : PySem.W.nsIn K mainGlobals "_law_tape" = some (some (.ref f_law_tape)))
    (l_law_tape : K.lookup f_law_tape = some ⟨oc_law_tape, od_law_tape, .func (PySem.W.fnOf "_law_tape" "_law_tape" (defArgs s_law_tape) (defBody s_law_tape) (defScope s_law_tape) dV_law_tape kV_law_tape dc_law_tape pmv_law_tape an_law_tape cd_law_tape ct_law_tape), sl_law_tape⟩)
    (c_law_tape : PySem.W.codeIn K cd_law_tape "_law_tape" = true)
    (k_law_tape : PySem.W.keepIn K (.ref f_law_tape) = true)
    (d_law_tape : dV_law_tape = .none)
    (a_law_same : PySem.W.nsIn K mainGlobals "_law_same" = some (some (.ref f_law_same)))
    (l_law_same : K.lookup f_law_same = some ⟨oc_law_same, od_law_same, .func (PySem.W.fnOf "_law_same" "_law_same" (defArgs s_law_same) (defBody s_law_same) (defScope s_law_same) dV_law_same kV_law_same dc_law_same pmv_law_same an_law_same cd_law_same ct_law_same), sl_law_same⟩)
    (c_law_same : PySem.W.codeIn K cd_law_same "_law_same" = true)
    (k_law_same : PySem.W.keepIn K (.ref f_law_same) = true)
    (d_law_same : dV_law_same = .none)
    (a_law : PySem.W.nsIn K mainGlobals "law" = some (some (.ref f_law)))
    (l_law : K.lookup f_law = some ⟨oc_law, od_law, .func (PySem.W.fnOf "law" "law" (defArgs s_law) (defBody s_law) (defScope s_law) dV_law kV_law dc_law pmv_law an_law cd_law ct_law), sl_law⟩)
    (c_law : PySem.W.codeIn K cd_law "law" = true)
    (k_law : PySem.W.keepIn K (.ref f_law) = true)
    (d_law : dV_law = .none)
    (z_len : PySem.W.nsIn K mainGlobals "len" = some none)
    (z_abs : PySem.W.nsIn K mainGlobals "abs" = some none)
    (z_int : PySem.W.nsIn K mainGlobals "int" = some none)
    (z_str : PySem.W.nsIn K mainGlobals "str" = some none)
    (z_tuple : PySem.W.nsIn K mainGlobals "tuple" = some none)
    (z_isinstance : PySem.W.nsIn K mainGlobals "isinstance" = some none)
    (z_range : PySem.W.nsIn K mainGlobals "range" = some none)
    (z_any : PySem.W.nsIn K mainGlobals "any" = some none)
    (z_list : PySem.W.nsIn K mainGlobals "list" = some none)
    (z_min : PySem.W.nsIn K mainGlobals "min" = some none)
    (z_max : PySem.W.nsIn K mainGlobals "max" = some none)
    (cF : PySem.W.nsIn K mainGlobals "FIGURES" = some (some (.str "0123456789" tkF)))
    (hdd : ∀ F : Hp, IsL K F [V.ref e1, .int 0, V.ref e3] [.tup [], .int 0, .tup []])
    (m1 : PySem.W.exmOne K (.ref C_BadTape) (.ref C_BadMachine) = some false)
    (m2 : PySem.W.exmOne K (.ref C_BadTape) (.ref C_BadTape) = some true)
    (e1_told_tape : cd_told_tape = .ref cc_told_tape)
    (e2_told_tape : K.lookup cc_told_tape = some ⟨x1_told_tape, x2_told_tape, .fields vs_told_tape, x3_told_tape⟩)
    (e3_told_tape : vs_told_tape[11]? = some (.ref Pt_told_tape))
    (e5_told_tape : K.lookup Pt_told_tape = none)
    (r_told_tape : (recsOf q).find? (fun r => r.name == ("told_tape" : Str)) = some dd1)
    (e1_law : cd_law = .ref cc_law)
    (e2_law : K.lookup cc_law = some ⟨x1_law, x2_law, .fields vs_law, x3_law⟩)
    (e3_law : vs_law[11]? = some (.ref Pt_law))
    (e5_law : K.lookup Pt_law = none)
    (r_law : (recsOf q).find? (fun r => r.name == ("law" : Str)) = some dd2)
    (pne : Pt_told_tape ≠ Pt_law) : LamX.LawAtS PySem.Challenge.rw_turingwright_k01_tapes_and_heads w K (L2.CX PySem.Challenge.rw_turingwright_k01_tapes_and_heads.prog w) 7 63 "script" mg fa h := by
  obtain ⟨u1, u2⟩ := tb _ _ _ _ r_told_tape (mkTab a_told_tape l_told_tape e1_told_tape e2_told_tape e3_told_tape)
  obtain ⟨v1, v2⟩ := tb _ _ _ _ r_law (mkTab a_law l_law e1_law e2_law e3_law)
  have efa := (PySem.W.mg_of KX G a_law).symm.trans hfa
  cases efa
  have FL := mkFc e1_law l_law c_law k_law (dfl0 d_law)
  refine ⟨_, [(cc_told_tape, Pt_told_tape), (cc_law, Pt_law)], spLaw K (Tbl Pt_told_tape Pt_law), ?_, ?_, ?_, fun s u => FL.d.bindsA (ps := P_law) bn_law s [u] rfl, ?_, fun base KB GB tabs => ?_⟩
  · intro p hp
    simp only [List.mem_cons, List.not_mem_nil, or_false] at hp
    rcases hp with rfl | rfl
    · exact u2
    · exact v2
  · intro p hp
    simp only [List.mem_cons, List.not_mem_nil, or_false] at hp
    rcases hp with rfl | rfl
    · exact e5_told_tape
    · exact e5_law
  · intro p hp
    simp only [List.mem_cons, List.not_mem_nil, or_false] at hp
    rcases hp with rfl | rfl
    · exact u1
    · exact v1
  · intro H a ns hl _ ht hs
    refine ⟨⟨fun p hp => ?_, fun p hp => by cases hp⟩, a, ns, rfl, hs, hl, fun _ => rfl⟩
    simp only [List.mem_cons, List.not_mem_nil, or_false] at hp
    rcases hp with rfl | rfl
    · exact LamX.TabS.nil (ht (cc_told_tape, Pt_told_tape) (by simp))
    · exact LamX.TabS.nil (ht (cc_law, Pt_law) (by simp))
  have tb1 : GxR.TabB base mg cc_told_tape Pt_told_tape := by
    have t := tabs (cc_told_tape, Pt_told_tape) (by simp)
    exact ⟨t.code, t.bm, t.gP⟩
  have tb2 : GxR.TabB base mg cc_law Pt_law := by
    have t := tabs (cc_law, Pt_law) (by simp)
    exact ⟨t.code, t.bm, t.gP⟩
  have inl1 : ∀ x ∈ (Tbl Pt_told_tape Pt_law).l, x.1 = Pt_told_tape → x.2 = ("told_tape" : Str) ++ ".<locals>." ++ "<genexpr>" := fun x hx e => by
    simp only [List.mem_cons, List.not_mem_nil, or_false] at hx
    rcases hx with rfl | rfl
    · rfl
    · exact (pne e.symm).elim
  have inl2 : ∀ x ∈ (Tbl Pt_told_tape Pt_law).l, x.1 = Pt_law → x.2 = ("law" : Str) ++ ".<locals>." ++ "<lambda>" := fun x hx e => by
    simp only [List.mem_cons, List.not_mem_nil, or_false] at hx
    rcases hx with rfl | rfl
    · exact (pne e).elim
    · rfl
  have T : Tx K mg := ⟨PySem.W.mg_none_of KB GB z_len, PySem.W.mg_none_of KB GB z_abs, PySem.W.mg_none_of KB GB z_int, PySem.W.mg_none_of KB GB z_str, PySem.W.mg_none_of KB GB z_tuple, PySem.W.mg_none_of KB GB z_isinstance, PySem.W.mg_none_of KB GB z_range, PySem.W.mg_none_of KB GB z_any⟩
  have T2 : Ty K mg := ⟨PySem.W.mg_none_of KB GB z_min, PySem.W.mg_none_of KB GB z_max, PySem.W.mg_none_of KB GB z_list⟩
  have cc : TC K C_Tape := ⟨⟨pg_Tape, hd_Tape, po_Tape, sa_Tape⟩, n_Tape_left, n_Tape_here, n_Tape_right⟩
  have xc : Xc K mg "BadTape" C_BadTape := ⟨q_BadTape, PySem.W.mg_of KB GB a_BadTape, k_BadTape, b_BadTape, t_BadTape⟩
  have ne : NoEq K C_Tape := ⟨ne1_Tape, ne2_Tape, ne3_Tape, ne4_Tape⟩
  have g_first_of := mkFd (mkF l_first_of c_first_of k_first_of (dfl0 d_first_of)) (ok_first_of (P := PySem.Challenge.rw_turingwright_k01_tapes_and_heads.prog) (w := w) (mg := mg) (base := base) (Tb := Tbl Pt_told_tape Pt_law) T (mkF l_first_of c_first_of k_first_of (dfl0 d_first_of))) (PySem.W.mg_of KB GB a_first_of) bn_first_of
  have g_trimmed := mkFd (mkF l_trimmed c_trimmed k_trimmed (dfl0 d_trimmed)) (ok_trimmed (P := PySem.Challenge.rw_turingwright_k01_tapes_and_heads.prog) (w := w) (mg := mg) (base := base) (Tb := Tbl Pt_told_tape Pt_law) T (mkF l_trimmed c_trimmed k_trimmed (dfl0 d_trimmed))) (PySem.W.mg_of KB GB a_trimmed) bn_trimmed
  have FI := (mkF l_Tape_init c_Tape_init k_Tape_init d_Tape_init)
  have g_Tape : Cd PySem.Challenge.rw_turingwright_k01_tapes_and_heads.prog w K mg base C_Tape "Tape" P_Tape_init [.ref e1, .int 0, .ref e3] 2 (spI K (Tbl Pt_told_tape Pt_law) (pm_Tape_init C_Tape C_BadTape)) := ⟨_, _, ok_Tape_init (P := PySem.Challenge.rw_turingwright_k01_tapes_and_heads.prog) (w := w) (mg := mg) (base := base) (Tb := Tbl Pt_told_tape Pt_law) T cc xc g_trimmed FI, ⟨mk_Tape, a_Tape_init, i_Tape_init, kc_Tape⟩, PySem.W.mg_of KB GB a_Tape, bd_init FI⟩
  have g_Tape_write := mkMd cc.cl (mkF l_Tape_write c_Tape_write k_Tape_write (dfl0 d_Tape_write)) (ok_Tape_write (P := PySem.Challenge.rw_turingwright_k01_tapes_and_heads.prog) (w := w) (mg := mg) (base := base) (Tb := Tbl Pt_told_tape Pt_law) T cc xc g_Tape g_first_of (mkF l_Tape_write c_Tape_write k_Tape_write (dfl0 d_Tape_write))) ⟨a_Tape_write, i_Tape_write, k_Tape_write⟩ bn_Tape_write
  have g_Tape_move := mkMd cc.cl (mkF l_Tape_move c_Tape_move k_Tape_move (dfl0 d_Tape_move)) (ok_Tape_move (P := PySem.Challenge.rw_turingwright_k01_tapes_and_heads.prog) (w := w) (mg := mg) (base := base) (Tb := Tbl Pt_told_tape Pt_law) T cc xc g_Tape g_first_of (mkF l_Tape_move c_Tape_move k_Tape_move (dfl0 d_Tape_move))) ⟨a_Tape_move, i_Tape_move, k_Tape_move⟩ bn_Tape_move
  have g_Tape_at := mkMd cc.cl (mkF l_Tape_at c_Tape_at k_Tape_at (dfl0 d_Tape_at)) (ok_Tape_at (P := PySem.Challenge.rw_turingwright_k01_tapes_and_heads.prog) (w := w) (mg := mg) (base := base) (Tb := Tbl Pt_told_tape Pt_law) T cc xc g_Tape g_first_of (mkF l_Tape_at c_Tape_at k_Tape_at (dfl0 d_Tape_at))) ⟨a_Tape_at, i_Tape_at, k_Tape_at⟩ bn_Tape_at
  have g_Tape_word := mkMd cc.cl (mkF l_Tape_word c_Tape_word k_Tape_word (dfl0 d_Tape_word)) (ok_Tape_word (P := PySem.Challenge.rw_turingwright_k01_tapes_and_heads.prog) (w := w) (mg := mg) (base := base) (Tb := Tbl Pt_told_tape Pt_law) T cc xc g_Tape g_first_of (mkF l_Tape_word c_Tape_word k_Tape_word (dfl0 d_Tape_word))) ⟨a_Tape_word, i_Tape_word, k_Tape_word⟩ bn_Tape_word
  have g_Tape_shown := mkMd cc.cl (mkF l_Tape_shown c_Tape_shown k_Tape_shown (dfl0 d_Tape_shown)) (ok_Tape_shown (P := PySem.Challenge.rw_turingwright_k01_tapes_and_heads.prog) (w := w) (mg := mg) (base := base) (Tb := Tbl Pt_told_tape Pt_law) T cc xc g_Tape g_first_of (mkF l_Tape_shown c_Tape_shown k_Tape_shown (dfl0 d_Tape_shown))) ⟨a_Tape_shown, i_Tape_shown, k_Tape_shown⟩ bn_Tape_shown
  have g_Tape_span := mkMd cc.cl (mkF l_Tape_span c_Tape_span k_Tape_span (dfl0 d_Tape_span)) (ok_Tape_span (P := PySem.Challenge.rw_turingwright_k01_tapes_and_heads.prog) (w := w) (mg := mg) (base := base) (Tb := Tbl Pt_told_tape Pt_law) T cc xc g_Tape g_first_of g_Tape_word (mkF l_Tape_span c_Tape_span k_Tape_span (dfl0 d_Tape_span))) ⟨a_Tape_span, i_Tape_span, k_Tape_span⟩ bn_Tape_span
  have g_Tape_ones := mkMd cc.cl (mkF l_Tape_ones c_Tape_ones k_Tape_ones (dfl0 d_Tape_ones)) (ok_Tape_ones (P := PySem.Challenge.rw_turingwright_k01_tapes_and_heads.prog) (w := w) (mg := mg) (base := base) (Tb := Tbl Pt_told_tape Pt_law) T cc xc g_Tape g_first_of g_Tape_word (mkF l_Tape_ones c_Tape_ones k_Tape_ones (dfl0 d_Tape_ones))) ⟨a_Tape_ones, i_Tape_ones, k_Tape_ones⟩ bn_Tape_ones
  have g_turned_tape := mkFd (mkF l_turned_tape c_turned_tape k_turned_tape (dfl0 d_turned_tape)) (ok_turned_tape (P := PySem.Challenge.rw_turingwright_k01_tapes_and_heads.prog) (w := w) (mg := mg) (base := base) (Tb := Tbl Pt_told_tape Pt_law) T cc xc g_Tape g_first_of (mkF l_turned_tape c_turned_tape k_turned_tape (dfl0 d_turned_tape))) (PySem.W.mg_of KB GB a_turned_tape) bn_turned_tape
  have FW := (mkF l_of_word c_of_word k_of_word d_of_word)
  have g_of_word : Fd PySem.Challenge.rw_turingwright_k01_tapes_and_heads.prog w K mg base "of_word" P_of_word [.int 0] 4 (spD K (Tbl Pt_told_tape Pt_law) (pm_of_word C_Tape C_BadTape)) := ⟨_, _, ok_of_word (P := PySem.Challenge.rw_turingwright_k01_tapes_and_heads.prog) (w := w) (mg := mg) (base := base) (Tb := Tbl Pt_told_tape Pt_law) T cc xc g_Tape g_first_of hdd FW, PySem.W.mg_of KB GB a_of_word, FW.kp, bd_of_word FW⟩
  have FT := mkFc e1_told_tape l_told_tape c_told_tape k_told_tape (dfl0 d_told_tape)
  have g_told_tape := mkFd FT.d (ok_told_tape (P := PySem.Challenge.rw_turingwright_k01_tapes_and_heads.prog) (w := w) (mg := mg) (base := base) (Tb := Tbl Pt_told_tape Pt_law) T cc xc g_Tape_word tb1 (by simp) inl1 rfl FT) (PySem.W.mg_of KB GB a_told_tape) bn_told_tape
  have g_signs_in := mkFd (mkF l_signs_in c_signs_in k_signs_in (dfl0 d_signs_in)) (ok_signs_in (P := PySem.Challenge.rw_turingwright_k01_tapes_and_heads.prog) (w := w) (mg := mg) (base := base) (Tb := Tbl Pt_told_tape Pt_law) T (mkF l_signs_in c_signs_in k_signs_in (dfl0 d_signs_in))) (PySem.W.mg_of KB GB a_signs_in) bn_signs_in
  have g_read_tape := mkFd (mkF l_read_tape c_read_tape k_read_tape (dfl0 d_read_tape)) (ok_read_tape (P := PySem.Challenge.rw_turingwright_k01_tapes_and_heads.prog) (w := w) (mg := mg) (base := base) (Tb := Tbl Pt_told_tape Pt_law) T cc xc g_Tape g_signs_in (PySem.W.mg_of KB GB cF) (mkF l_read_tape c_read_tape k_read_tape (dfl0 d_read_tape))) (PySem.W.mg_of KB GB a_read_tape) bn_read_tape
  have g_law_dice := mkFd (mkF l_law_dice c_law_dice k_law_dice (dfl0 d_law_dice)) (ok_law_dice (P := PySem.Challenge.rw_turingwright_k01_tapes_and_heads.prog) (w := w) (mg := mg) (base := base) (Tb := Tbl Pt_told_tape Pt_law) T (mkF l_law_dice c_law_dice k_law_dice (dfl0 d_law_dice))) (PySem.W.mg_of KB GB a_law_dice) bn_law_dice
  have g_law_roll := mkFd (mkF l_law_roll c_law_roll k_law_roll (dfl0 d_law_roll)) (ok_law_roll (P := PySem.Challenge.rw_turingwright_k01_tapes_and_heads.prog) (w := w) (mg := mg) (base := base) (Tb := Tbl Pt_told_tape Pt_law) T (mkF l_law_roll c_law_roll k_law_roll (dfl0 d_law_roll))) (PySem.W.mg_of KB GB a_law_roll) bn_law_roll
  have g_law_rounds := mkFd (mkF l_law_rounds c_law_rounds k_law_rounds (dfl0 d_law_rounds)) (ok_law_rounds (P := PySem.Challenge.rw_turingwright_k01_tapes_and_heads.prog) (w := w) (mg := mg) (base := base) (Tb := Tbl Pt_told_tape Pt_law) T g_law_dice (mkF l_law_rounds c_law_rounds k_law_rounds (dfl0 d_law_rounds))) (PySem.W.mg_of KB GB a_law_rounds) bn_law_rounds
  have g_law_tape := mkFd (mkF l_law_tape c_law_tape k_law_tape (dfl0 d_law_tape)) (ok_law_tape (P := PySem.Challenge.rw_turingwright_k01_tapes_and_heads.prog) (w := w) (mg := mg) (base := base) (Tb := Tbl Pt_told_tape Pt_law) T g_Tape g_law_roll (mkF l_law_tape c_law_tape k_law_tape (dfl0 d_law_tape))) (PySem.W.mg_of KB GB a_law_tape) bn_law_tape
  have g_law_same := mkFd (mkF l_law_same c_law_same k_law_same (dfl0 d_law_same)) (ok_law_same (P := PySem.Challenge.rw_turingwright_k01_tapes_and_heads.prog) (w := w) (mg := mg) (base := base) (Tb := Tbl Pt_told_tape Pt_law) T T2 g_Tape_at g_Tape_ones (mkF l_law_same c_law_same k_law_same (dfl0 d_law_same))) (PySem.W.mg_of KB GB a_law_same) bn_law_same
  have hh := hds_told (PySem.W.mg_of KB GB a_BadMachine) (PySem.W.mg_of KB GB a_BadTape) (PySem.W.mg_of KB GB a_BadTerm) (PySem.W.mg_of KB GB a_BadPaper) (PySem.W.mg_of KB GB a_BadSize) (PySem.W.mg_of KB GB a_BadText) (PySem.W.mg_of KB GB a_BadStore) (PySem.W.mg_of KB GB a_NoEnd) (PySem.W.mg_of KB GB a_NoSuch)
  have g_law_told := mkFd (mkF l_law_told c_law_told k_law_told (dfl0 d_law_told)) (told_fn (P := PySem.Challenge.rw_turingwright_k01_tapes_and_heads.prog) (w := w) (base := base) (k := 4) (mkF l_law_told c_law_told k_law_told (dfl0 d_law_told)) sc_law_told (by obtain h := told_body; exact (rfl : defBody s_law_told = _)) (.inl rfl) fun _ _ _ _ _ _ => hh _ rfl rfl) (PySem.W.mg_of KB GB a_law_told) bn_law_told
  have tl : Tld K mg "_law_told" "what" [] s_law_told toldH0 (toldH.drop 1) _ := ⟨sc_law_told, .inl rfl, told_body, hh, ⟨_, _, _, _, _, _, _, _, _, _, _, PySem.W.mg_of KB GB a_law_told, k_law_told, l_law_told, c_law_told, (mkF l_law_told c_law_told k_law_told (dfl0 d_law_told)).bindsN bn_law_told⟩⟩
  exact ok_law (P := PySem.Challenge.rw_turingwright_k01_tapes_and_heads.prog) (w := w) (mg := mg) (base := base) (Tb := Tbl Pt_told_tape Pt_law) T T2 cc hdd ne g_Tape g_Tape_write g_Tape_move g_Tape_at g_Tape_ones g_Tape_span g_Tape_word g_Tape_shown g_trimmed g_first_of g_of_word g_told_tape g_read_tape g_turned_tape g_law_roll g_law_rounds g_law_tape g_law_same g_law_told tb2 (by simp) inl2 rfl tl (fun Q hq => ⟨false, m1, fun z => (Bool.false_ne_true z).elim, fun _ => ⟨true, m2, fun _ => hq, fun z => (Bool.false_ne_true z.symm).elim⟩⟩) FL
end TW
open PySem PySem.W PyProof.Rows
set_option maxRecDepth 100000 in
set_option maxHeartbeats 0 in
theorem PySem.Challenge.cw_turingwright_k01_tapes_and_heads_holds : PySem.Challenge.rw_turingwright_k01_tapes_and_heads.Holds := by
  w_on; o_law; k_head; (case hw => w_witness2)
  k_fill
  refine DL.walk_tab (l := PySem.Challenge.rw_turingwright_k01_tapes_and_heads) (n := 63) (k := 7) (x := "script") (CX := fun w => L2.CX PySem.Challenge.rw_turingwright_k01_tapes_and_heads.prog w) rfl (by decide) rfl ⟨rfl, by decide, by decide⟩ (fun w h Y => PySem.W.km_in_of Y) ?F fun w H s e s' h => DL.cx_end h
  case F =>
    intro w mg fa h Y KX G tb hmg
    refine' TW.fin KX G tb hmg ?a_MachineFault ?a_BadMachine ?a_BadTape ?q_BadTape ?k_BadTape ?b_BadTape ?t_BadTape ?a_BadTerm ?a_BadPaper ?a_BadSize ?a_BadText ?a_BadStore ?a_NoEnd ?a_NoSuch ?a_Tape ?pg_Tape ?hd_Tape ?po_Tape ?sa_Tape ?mk_Tape ?kc_Tape ?ne1_Tape ?ne2_Tape ?ne3_Tape ?ne4_Tape ?n_Tape_left ?n_Tape_here ?n_Tape_right ?a_Tape_init ?i_Tape_init ?l_Tape_init ?c_Tape_init ?k_Tape_init ?d_Tape_init ?a_Tape_write ?i_Tape_write ?l_Tape_write ?c_Tape_write ?k_Tape_write ?d_Tape_write ?a_Tape_move ?i_Tape_move ?l_Tape_move ?c_Tape_move ?k_Tape_move ?d_Tape_move ?a_Tape_at ?i_Tape_at ?l_Tape_at ?c_Tape_at ?k_Tape_at ?d_Tape_at ?a_Tape_ones ?i_Tape_ones ?l_Tape_ones ?c_Tape_ones ?k_Tape_ones ?d_Tape_ones ?a_Tape_span ?i_Tape_span ?l_Tape_span ?c_Tape_span ?k_Tape_span ?d_Tape_span ?a_Tape_word ?i_Tape_word ?l_Tape_word ?c_Tape_word ?k_Tape_word ?d_Tape_word ?a_Tape_shown ?i_Tape_shown ?l_Tape_shown ?c_Tape_shown ?k_Tape_shown ?d_Tape_shown ?a_trimmed ?l_trimmed ?c_trimmed ?k_trimmed ?d_trimmed ?a_first_of ?l_first_of ?c_first_of ?k_first_of ?d_first_of ?a_of_word ?l_of_word ?c_of_word ?k_of_word ?d_of_word ?a_told_tape ?l_told_tape ?c_told_tape ?k_told_tape ?d_told_tape ?a_read_tape ?l_read_tape ?c_read_tape ?k_read_tape ?d_read_tape ?a_signs_in ?l_signs_in ?c_signs_in ?k_signs_in ?d_signs_in ?a_turned_tape ?l_turned_tape ?c_turned_tape ?k_turned_tape ?d_turned_tape ?a_law_dice ?l_law_dice ?c_law_dice ?k_law_dice ?d_law_dice ?a_law_roll ?l_law_roll ?c_law_roll ?k_law_roll ?d_law_roll ?a_law_rounds ?l_law_rounds ?c_law_rounds ?k_law_rounds ?d_law_rounds ?a_law_told ?l_law_told ?c_law_told ?k_law_told ?d_law_told ?a_law_tape ?l_law_tape ?c_law_tape ?k_law_tape ?d_law_tape ?a_law_same ?l_law_same ?c_law_same ?k_law_same ?d_law_same ?a_law ?l_law ?c_law ?k_law ?d_law ?z_len ?z_abs ?z_int ?z_str ?z_tuple ?z_isinstance ?z_range ?z_any ?z_list ?z_min ?z_max ?cF ?hdd ?m1 ?m2 ?e1_told_tape ?e2_told_tape ?e3_told_tape ?e5_told_tape ?r_told_tape ?e1_law ?e2_law ?e3_law ?e5_law ?r_law ?pne
    (case a_MachineFault => (first | k_is | rfl | decide))
    (case a_BadMachine => (first | k_is | rfl | decide))
    (case a_BadTape => (first | k_is | rfl | decide))
    (case a_BadTerm => (first | k_is | rfl | decide))
    (case a_BadPaper => (first | k_is | rfl | decide))
    (case a_BadSize => (first | k_is | rfl | decide))
    (case a_BadText => (first | k_is | rfl | decide))
    (case a_BadStore => (first | k_is | rfl | decide))
    (case a_NoEnd => (first | k_is | rfl | decide))
    (case a_NoSuch => (first | k_is | rfl | decide))
    (case a_Tape => (first | k_is | rfl | decide))
    (case a_Tape_init => (first | k_is | rfl | decide))
    (case a_Tape_write => (first | k_is | rfl | decide))
    (case a_Tape_move => (first | k_is | rfl | decide))
    (case a_Tape_at => (first | k_is | rfl | decide))
    (case a_Tape_ones => (first | k_is | rfl | decide))
    (case a_Tape_span => (first | k_is | rfl | decide))
    (case a_Tape_word => (first | k_is | rfl | decide))
    (case a_Tape_shown => (first | k_is | rfl | decide))
    (case a_trimmed => (first | k_is | rfl | decide))
    (case a_first_of => (first | k_is | rfl | decide))
    (case a_of_word => (first | k_is | rfl | decide))
    (case a_told_tape => (first | k_is | rfl | decide))
    (case a_read_tape => (first | k_is | rfl | decide))
    (case a_signs_in => (first | k_is | rfl | decide))
    (case a_turned_tape => (first | k_is | rfl | decide))
    (case a_law_dice => (first | k_is | rfl | decide))
    (case a_law_roll => (first | k_is | rfl | decide))
    (case a_law_rounds => (first | k_is | rfl | decide))
    (case a_law_told => (first | k_is | rfl | decide))
    (case a_law_tape => (first | k_is | rfl | decide))
    (case a_law_same => (first | k_is | rfl | decide))
    (case a_law => (first | k_is | rfl | decide))
    (case l_Tape_init => (first | k_is | rfl | decide))
    (case l_Tape_write => (first | k_is | rfl | decide))
    (case l_Tape_move => (first | k_is | rfl | decide))
    (case l_Tape_at => (first | k_is | rfl | decide))
    (case l_Tape_ones => (first | k_is | rfl | decide))
    (case l_Tape_span => (first | k_is | rfl | decide))
    (case l_Tape_word => (first | k_is | rfl | decide))
    (case l_Tape_shown => (first | k_is | rfl | decide))
    (case l_trimmed => (first | k_is | rfl | decide))
    (case l_first_of => (first | k_is | rfl | decide))
    (case l_of_word => (first | k_is | rfl | decide))
    (case l_told_tape => (first | k_is | rfl | decide))
    (case l_read_tape => (first | k_is | rfl | decide))
    (case l_signs_in => (first | k_is | rfl | decide))
    (case l_turned_tape => (first | k_is | rfl | decide))
    (case l_law_dice => (first | k_is | rfl | decide))
    (case l_law_roll => (first | k_is | rfl | decide))
    (case l_law_rounds => (first | k_is | rfl | decide))
    (case l_law_told => (first | k_is | rfl | decide))
    (case l_law_tape => (first | k_is | rfl | decide))
    (case l_law_same => (first | k_is | rfl | decide))
    (case l_law => (first | k_is | rfl | decide))
    (case d_Tape_init => (exact Or.inr ⟨by simp, _, _, [.ref _, .int 0 _, .ref _], _, rfl, (by k_is), rfl, .cons rfl (.cons ⟨_, rfl⟩ (.cons rfl .nil))⟩))
    (case d_of_word => (exact Or.inr ⟨by simp, _, _, [.int 0 _], _, rfl, (by k_is), rfl, .cons ⟨_, rfl⟩ .nil⟩))
    (case e1_told_tape => (first | rfl | k_is | decide))
    (case e1_law => (first | rfl | k_is | decide))
    (case e2_told_tape => (first | k_is | rfl | decide))
    (case e2_law => (first | k_is | rfl | decide))
    (case e3_told_tape => (first | rfl | k_is | decide))
    (case e3_law => (first | rfl | k_is | decide))
    (case q_BadTape => (with_unfolding_all rfl))
    (case k_BadTape => (first | k_is | rfl | decide))
    (case b_BadTape => (first | k_is | rfl | decide))
    (case t_BadTape => (first | k_is | rfl | decide))
    (case pg_Tape => (first | k_is | rfl | decide))
    (case hd_Tape => (first | k_is | rfl | decide))
    (case po_Tape => (first | k_is | rfl | decide))
    (case sa_Tape => (first | k_is | rfl | decide))
    (case mk_Tape => (first | k_is | rfl | decide))
    (case kc_Tape => (first | k_is | rfl | decide))
    (case ne1_Tape => (first | k_is | rfl | decide))
    (case ne2_Tape => (first | k_is | rfl | decide))
    (case ne3_Tape => (first | k_is | rfl | decide))
    (case ne4_Tape => (first | k_is | rfl | decide))
    (case n_Tape_left => (first | k_is | rfl | decide))
    (case n_Tape_here => (first | k_is | rfl | decide))
    (case n_Tape_right => (first | k_is | rfl | decide))
    (case i_Tape_init => (first | k_is | rfl | decide))
    (case c_Tape_init => (first | k_is | rfl | decide))
    (case k_Tape_init => (first | k_is | rfl | decide))
    (case i_Tape_write => (first | k_is | rfl | decide))
    (case c_Tape_write => (first | k_is | rfl | decide))
    (case k_Tape_write => (first | k_is | rfl | decide))
    (case d_Tape_write => (first | rfl | k_is | decide))
    (case i_Tape_move => (first | k_is | rfl | decide))
    (case c_Tape_move => (first | k_is | rfl | decide))
    (case k_Tape_move => (first | k_is | rfl | decide))
    (case d_Tape_move => (first | rfl | k_is | decide))
    (case i_Tape_at => (first | k_is | rfl | decide))
    (case c_Tape_at => (first | k_is | rfl | decide))
    (case k_Tape_at => (first | k_is | rfl | decide))
    (case d_Tape_at => (first | rfl | k_is | decide))
    (case i_Tape_ones => (first | k_is | rfl | decide))
    (case c_Tape_ones => (first | k_is | rfl | decide))
    (case k_Tape_ones => (first | k_is | rfl | decide))
    (case d_Tape_ones => (first | rfl | k_is | decide))
    (case i_Tape_span => (first | k_is | rfl | decide))
    (case c_Tape_span => (first | k_is | rfl | decide))
    (case k_Tape_span => (first | k_is | rfl | decide))
    (case d_Tape_span => (first | rfl | k_is | decide))
    (case i_Tape_word => (first | k_is | rfl | decide))
    (case c_Tape_word => (first | k_is | rfl | decide))
    (case k_Tape_word => (first | k_is | rfl | decide))
    (case d_Tape_word => (first | rfl | k_is | decide))
    (case i_Tape_shown => (first | k_is | rfl | decide))
    (case c_Tape_shown => (first | k_is | rfl | decide))
    (case k_Tape_shown => (first | k_is | rfl | decide))
    (case d_Tape_shown => (first | rfl | k_is | decide))
    (case c_trimmed => (first | k_is | rfl | decide))
    (case k_trimmed => (first | k_is | rfl | decide))
    (case d_trimmed => (first | rfl | k_is | decide))
    (case c_first_of => (first | k_is | rfl | decide))
    (case k_first_of => (first | k_is | rfl | decide))
    (case d_first_of => (first | rfl | k_is | decide))
    (case c_of_word => (first | k_is | rfl | decide))
    (case k_of_word => (first | k_is | rfl | decide))
    (case c_told_tape => (first | k_is | rfl | decide))
    (case k_told_tape => (first | k_is | rfl | decide))
    (case d_told_tape => (first | rfl | k_is | decide))
    (case c_read_tape => (first | k_is | rfl | decide))
    (case k_read_tape => (first | k_is | rfl | decide))
    (case d_read_tape => (first | rfl | k_is | decide))
    (case c_signs_in => (first | k_is | rfl | decide))
    (case k_signs_in => (first | k_is | rfl | decide))
    (case d_signs_in => (first | rfl | k_is | decide))
    (case c_turned_tape => (first | k_is | rfl | decide))
    (case k_turned_tape => (first | k_is | rfl | decide))
    (case d_turned_tape => (first | rfl | k_is | decide))
    (case c_law_dice => (first | k_is | rfl | decide))
    (case k_law_dice => (first | k_is | rfl | decide))
    (case d_law_dice => (first | rfl | k_is | decide))
    (case c_law_roll => (first | k_is | rfl | decide))
    (case k_law_roll => (first | k_is | rfl | decide))
    (case d_law_roll => (first | rfl | k_is | decide))
    (case c_law_rounds => (first | k_is | rfl | decide))
    (case k_law_rounds => (first | k_is | rfl | decide))
    (case d_law_rounds => (first | rfl | k_is | decide))
    (case c_law_told => (first | k_is | rfl | decide))
    (case k_law_told => (first | k_is | rfl | decide))
    (case d_law_told => (first | rfl | k_is | decide))
    (case c_law_tape => (first | k_is | rfl | decide))
    (case k_law_tape => (first | k_is | rfl | decide))
    (case d_law_tape => (first | rfl | k_is | decide))
    (case c_law_same => (first | k_is | rfl | decide))
    (case k_law_same => (first | k_is | rfl | decide))
    (case d_law_same => (first | rfl | k_is | decide))
    (case c_law => (first | k_is | rfl | decide))
    (case k_law => (first | k_is | rfl | decide))
    (case d_law => (first | rfl | k_is | decide))
    (case z_len => (first | k_is | rfl | decide))
    (case z_abs => (first | k_is | rfl | decide))
    (case z_int => (first | k_is | rfl | decide))
    (case z_str => (first | k_is | rfl | decide))
    (case z_tuple => (first | k_is | rfl | decide))
    (case z_isinstance => (first | k_is | rfl | decide))
    (case z_range => (first | k_is | rfl | decide))
    (case z_any => (first | k_is | rfl | decide))
    (case z_list => (first | k_is | rfl | decide))
    (case z_min => (first | k_is | rfl | decide))
    (case z_max => (first | k_is | rfl | decide))
    (case cF => (first | k_is | rfl | decide))
    (case hdd => (exact fun F => .cons (.tup (.inr ⟨_, _, _, (by k_is), rfl, rfl, by decide, .nil⟩) .nil) (.cons .int (.cons (.tup (.inr ⟨_, _, _, (by k_is), rfl, rfl, by decide, .nil⟩) .nil) .nil))))
    (case m1 => (first | k_is | rfl | with_unfolding_all rfl))
    (case m2 => (first | k_is | rfl | with_unfolding_all rfl))
    (case e5_told_tape => (first | k_is | rfl | decide))
    (case r_told_tape => (first | rfl | with_unfolding_all rfl))
    (case e5_law => (first | k_is | rfl | decide))
    (case r_law => (first | rfl | with_unfolding_all rfl))
    (case pne => (first | k_is | rfl | decide))
