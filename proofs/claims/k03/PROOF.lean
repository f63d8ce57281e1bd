import PyProof.Rows.All
import Wide.All
import OpenK.AllK
import Wide.FinOn
import HandS.ForMost
import HandS.ForExc
import HandS.Deep
import HandS.IsInst
import HandS.ExcIs
import HandS.Flow
import HandS.Wide
import HandS.WideBits
import HandS.Gcd
import HandS.Zip
import HandS.SortInts
import HandS.Style
import HandS.TupAny
import HandS.EndBits
import HandS.AnyAll
import HandS.RaiseMore
import HandS.Rev
import KE.GoesZip
import KE.KStar
import HandS.Iter
import HandS.Star
import HandS.More
import PyProof.GenCompD
import PyProof.Rows.ZipGen
import PySem.Challenge.RW_latelaw_k03_works_checked
set_option Elab.async false
set_option linter.all false
set_option maxRecDepth 100000
set_option maxHeartbeats 4000000
namespace DL
open PySem PySem.Spec PyProof.Rows L2

abbrev D := PyData
/-- an outcome: a value, an own exception by its class's name, or nothing is said -/
inductive R (A : Type) where
  | ok (a : A) | er (c : Str) | no
def R.bind {A B : Type} (r : R A) (f : A → R B) : R B := match r with
  | .ok a => f a
  | .er c => .er c
  | .no => .no
def R.map {A B : Type} (f : A → B) (r : R A) : R B := r.bind fun a => .ok (f a)
/-- a value of a slot: data that may be shared, or a list that this slot alone knows -/
inductive S where
  | fr (d : D) | ow (xs : List S) | tu (xs : List S)
mutual
def S.toD : S → D
  | .fr d => d
  | .ow xs => .list (toDs xs)
  | .tu xs => .tuple (toDs xs)
def toDs : List S → List D
  | [] => []
  | x :: xs => x.toD :: toDs xs
end
theorem toDs_map : ∀ xs : List S, toDs xs = xs.map S.toD
  | [] => rfl
  | x :: xs => by rw [toDs, toDs_map xs]; rfl
/-- a slot: a value, or a dict that this slot alone knows -/
inductive Sl where
  | v (s : S) | m (kvs : List (Key × D)) | xc (a : Addr)
abbrev En := List (Option Sl)

/-- whether an object is no table -/
def noTb : HO → Bool
  | .tbl _ => false
  | _ => true
/-- all that was tracked is as it was, but that a table may have grown -/
structure Same (H H' : Hp) : Prop where
  k : ∀ b o, H b = some o → noTb o = true → H' b = some o
  t : ∀ b ps, H b = some (.tbl ps) → ∃ more, H' b = some (.tbl (ps ++ more)) ∧ (TriplesOk ps.toList → TriplesOk (ps ++ more).toList)
theorem Same.ap {H H' : Hp} (s : Same H H') : ∀ b o, H b = some o → (hn : noTb o = true := by rfl) → H' b = some o := fun b o h hn => s.k b o h hn
instance {H H' : Hp} : CoeFun (Same H H') (fun _ => ∀ b o, H b = some o → (hn : noTb o = true := by rfl) → H' b = some o) := ⟨@Same.ap H H'⟩
theorem Same.of {H H' : Hp} (h : ∀ b o, H b = some o → H' b = some o) : Same H H' := ⟨fun b o e _ => h b o e, fun b ps e => ⟨#[], by rw [Array.append_empty]; exact h b _ e, by rw [Array.append_empty]; exact id⟩⟩
theorem Same.refl (H : Hp) : Same H H := .of fun _ _ h => h
theorem Same.trans {H H1 H2 : Hp} (a : Same H H1) (b : Same H1 H2) : Same H H2 := ⟨fun c o h n => b.k c o (a.k c o h n) n, fun c ps h => by
  obtain ⟨m1, h1, t1⟩ := a.t c ps h
  obtain ⟨m2, h2, t2⟩ := b.t c _ h1
  exact ⟨m1 ++ m2, by rw [h2, Array.append_assoc], fun z => by have := t2 (t1 z); rwa [Array.append_assoc] at this⟩⟩
theorem Same.free {H H' : Hp} (e : Same H H') {l : Addr} (h : H' l = Option.none) : H l = Option.none := by
  cases q : H l with
  | none => rfl
  | some o =>
    cases hn : noTb o with
    | true => rw [e.k l o q hn] at h; cases h
    | false =>
      cases o with
      | tbl ps =>
        obtain ⟨m, h1, _⟩ := e.t l ps q
        rw [h1] at h; cases h
      | _ => cases hn
/-- the tables of code objects that may grow -/
class Tabs where
  T : List Addr
instance (priority := low) tabs0 : Tabs := ⟨[]⟩
/-- the tables stand -/
def Tg [Tabs] (H : Hp) : Prop := ∀ P ∈ Tabs.T, ∃ ps, H P = some (.tbl ps) ∧ TriplesOk ps.toList
theorem Tg.same [Tabs] {B H : Hp} (g : Tg B) (s : Same B H) : Tg H := fun P hP => by
  obtain ⟨ps, h1, h2⟩ := g P hP
  obtain ⟨m, k1, k2⟩ := s.t P ps h1
  exact ⟨_, k1, k2 h2⟩
/-- .. and hold the tables -/
structure BSame [Tabs] (B H : Hp) : Prop where
  s : Same B H
  tg : Tg B
instance [Tabs] {B H : Hp} : Coe (BSame B H) (Same B H) := ⟨BSame.s⟩
theorem BSame.trans [Tabs] {B H H' : Hp} (a : BSame B H) (b : Same H H') : BSame B H' := ⟨a.s.trans b, a.tg⟩
theorem BSame.free [Tabs] {B H : Hp} (e : BSame B H) {l : Addr} (h : H l = Option.none) : B l = Option.none := e.s.free h
theorem BSame.tgH [Tabs] {B H : Hp} (e : BSame B H) : Tg H := e.tg.same e.s
theorem Same.seq {K : PySem.W.Frag} {H H' : Hp} {a : Addr} {xs : List V} (e : Same H H') (h : SqL K H a xs) : SqL K H' a xs := by
  rcases h with (h | ⟨o, h⟩) | h
  · exact .inl (.inl (e _ _ h))
  · exact .inl (.inr ⟨o, e _ _ h⟩)
  · exact .inr h

theorem SqT.same {K : PySem.W.Frag} {H H' : Hp} {a : Addr} {xs : List V} (e : Same H H') (h : SqT K H a xs) : SqT K H' a xs := by
  rcases h with (h | ⟨o, h⟩) | h
  · exact .inl (.inl (e _ _ h))
  · exact .inl (.inr ⟨o, e _ _ h⟩)
  · exact .inr h
mutual
theorem Dp.mono {K : PySem.W.Frag} {F F' : Hp} (e : Same F F') : ∀ (d : D) (v : V), Dp K F v d → Dp K F' v d
  | .none, _, h => by cases h; exact .non
  | .bool b, _, h => by cases h; exact .bl b
  | .int i, _, h => by cases h; exact .int i
  | .str x, _, h => by cases h; exact .str x
  | .list ds, _, h => by
    cases h with
    | lst a b => exact .lst (e.seq a) (DpAll.mono e ds _ b)
  | .tuple ds, _, h => by
    cases h with
    | tup a b => exact .tup (SqT.same e a) (DpAll.mono e ds _ b)
  | .dict _, _, h => by cases h
theorem DpAll.mono {K : PySem.W.Frag} {F F' : Hp} (e : Same F F') : ∀ (ds : List D) (vs : List V), DpAll K F vs ds → DpAll K F' vs ds
  | [], _, h => by cases h; exact .nil
  | d :: ds, _, h => by
    cases h with
    | cons a b => exact .cons (Dp.mono e d _ a) (DpAll.mono e ds _ b)
end
end DL
namespace L2
open PySem
theorem DpAll.len {K : PySem.W.Frag} {F : Hp} : ∀ {vs : List V} {ds : List PyData}, DpAll K F vs ds → vs.length = ds.length
  | _, _, .nil => rfl
  | _, _, .cons _ t => by simp [DpAll.len t]
theorem DpAll.get {K : PySem.W.Frag} {F : Hp} : ∀ {vs : List V} {ds : List PyData} {i : Nat} {v : V}, DpAll K F vs ds → vs[i]? = some v → ∃ d, ds[i]? = some d ∧ Dp K F v d
  | _, _, _, _, .nil, e => by simp at e
  | _, _, 0, _, .cons a _, e => by simp at e; subst e; exact ⟨_, rfl, a⟩
  | _, _, i + 1, _, .cons _ t, e => by
    obtain ⟨d, h1, h2⟩ := DpAll.get (i := i) t (by simpa using e)
    exact ⟨d, by simpa using h1, h2⟩
theorem DpAll.getD {K : PySem.W.Frag} {F : Hp} : ∀ {vs : List V} {ds : List PyData} {i : Nat} {d : PyData}, DpAll K F vs ds → ds[i]? = some d → ∃ v, vs[i]? = some v ∧ Dp K F v d
  | _, _, _, _, .nil, e => by simp at e
  | _, _, 0, _, .cons a _, e => by simp at e; subst e; exact ⟨_, rfl, a⟩
  | _, _, i + 1, _, .cons _ t, e => by
    obtain ⟨d, h1, h2⟩ := DpAll.getD (i := i) t (by simpa using e)
    exact ⟨d, by simpa using h1, h2⟩
theorem DpAll.app {K : PySem.W.Frag} {F : Hp} : ∀ {vs : List V} {ds : List PyData} {ws : List V} {es : List PyData}, DpAll K F vs ds → DpAll K F ws es → DpAll K F (vs ++ ws) (ds ++ es)
  | _, _, _, _, .nil, h => h
  | _, _, _, _, .cons a t, h => .cons a (DpAll.app t h)
theorem DpAll.take {K : PySem.W.Frag} {F : Hp} : ∀ {vs : List V} {ds : List PyData} (n : Nat), DpAll K F vs ds → DpAll K F (vs.take n) (ds.take n)
  | _, _, 0, _ => .nil
  | _, _, _ + 1, .nil => .nil
  | _, _, n + 1, .cons a t => .cons a (DpAll.take n t)
theorem DpAll.drop {K : PySem.W.Frag} {F : Hp} : ∀ {vs : List V} {ds : List PyData} (n : Nat), DpAll K F vs ds → DpAll K F (vs.drop n) (ds.drop n)
  | _, _, 0, h => h
  | _, _, _ + 1, .nil => .nil
  | _, _, n + 1, .cons _ t => DpAll.drop n t

end L2
namespace DL
open PySem PySem.Spec PyProof.Rows L2
mutual
/-- v, at its place, bears s: the lists that are its own stand at as, out of F -/
inductive Ow (K : PySem.W.Frag) (F H : Hp) : V → S → List Addr → Prop
  | fr {v : V} {d : D} : Dp K F v d → Ow K F H v (.fr d) []
  | ow {a : Addr} {vs : List V} {ss : List S} {as : List Addr} : F a = none → H a = some (.lst vs) → OwAll K F H vs ss as → Ow K F H (.ref a) (.ow ss) (a :: as)
  | tu {a : Addr} {vs : List V} {ss : List S} {as : List Addr} : F a = none → H a = some (.tup vs) → OwAll K F H vs ss as → Ow K F H (.ref a) (.tu ss) (a :: as)
inductive OwAll (K : PySem.W.Frag) (F H : Hp) : List V → List S → List Addr → Prop
  | nil : OwAll K F H [] [] []
  | cons {v : V} {s : S} {as : List Addr} {vs : List V} {ss : List S} {bs : List Addr} : Ow K F H v s as → OwAll K F H vs ss bs → OwAll K F H (v :: vs) (s :: ss) (as ++ bs)
end
mutual
theorem Ow.mono {K : PySem.W.Frag} {F F' H H' : Hp} (e : Same F F') : ∀ (s : S) (v : V) (as : List Addr), Ow K F H v s as → (∀ a ∈ as, F' a = none ∧ H' a = H a) → Ow K F' H' v s as
  | .fr d, _, _, h, _ => by
    cases h with
    | fr a => exact .fr (Dp.mono e d _ a)
  | .ow ss, _, _, h, k => by
    cases h with
    | ow a b c =>
      have k0 := k _ List.mem_cons_self
      exact .ow k0.1 (k0.2.trans b) (OwAll.mono e ss _ _ c fun x hx => k x (List.mem_cons_of_mem _ hx))
  | .tu ss, _, _, h, k => by
    cases h with
    | tu a b c =>
      have k0 := k _ List.mem_cons_self
      exact .tu k0.1 (k0.2.trans b) (OwAll.mono e ss _ _ c fun x hx => k x (List.mem_cons_of_mem _ hx))
theorem OwAll.mono {K : PySem.W.Frag} {F F' H H' : Hp} (e : Same F F') : ∀ (ss : List S) (vs : List V) (as : List Addr), OwAll K F H vs ss as → (∀ a ∈ as, F' a = none ∧ H' a = H a) → OwAll K F' H' vs ss as
  | [], _, _, h, _ => by cases h; exact .nil
  | s :: ss, _, _, h, k => by
    cases h with
    | cons a b => exact .cons (Ow.mono e s _ _ a fun x hx => k x (List.mem_append_left _ hx)) (OwAll.mono e ss _ _ b fun x hx => k x (List.mem_append_right _ hx))
end
mutual
theorem Ow.at {K : PySem.W.Frag} {F H : Hp} : ∀ (s : S) (v : V) (as : List Addr), Ow K F H v s as → ∀ a ∈ as, F a = none ∧ ∃ o, H a = some o ∧ noTb o = true
  | .fr d, _, _, h, a, ha => by
    cases h with
    | fr _ => cases ha
  | .ow ss, _, _, h, a, ha => by
    cases h with
    | ow p q c =>
      rcases List.mem_cons.mp ha with e | e
      · subst e; exact ⟨p, _, q, rfl⟩
      · exact OwAll.at ss _ _ c a e
  | .tu ss, _, _, h, a, ha => by
    cases h with
    | tu p q c =>
      rcases List.mem_cons.mp ha with e | e
      · subst e; exact ⟨p, _, q, rfl⟩
      · exact OwAll.at ss _ _ c a e
theorem OwAll.at {K : PySem.W.Frag} {F H : Hp} : ∀ (ss : List S) (vs : List V) (as : List Addr), OwAll K F H vs ss as → ∀ a ∈ as, F a = none ∧ ∃ o, H a = some o ∧ noTb o = true
  | [], _, _, h, a, ha => by cases h; cases ha
  | s :: ss, _, _, h, a, ha => by
    cases h with
    | cons p q =>
      rcases List.mem_append.mp ha with e | e
      · exact Ow.at s _ _ p a e
      · exact OwAll.at ss _ _ q a e
end
mutual
/-- read as data in any heap that holds both -/
theorem Ow.dp {K : PySem.W.Frag} {F H G : Hp} (f : Same F G) : ∀ (s : S) (v : V) (as : List Addr), Ow K F H v s as → (∀ a ∈ as, G a = H a) → Dp K G v s.toD
  | .fr d, _, _, h, _ => by
    cases h with
    | fr a => exact Dp.mono f d _ a
  | .ow ss, _, _, h, k => by
    cases h with
    | ow a b c =>
      rw [S.toD]
      exact .lst (SqL.of ((k _ List.mem_cons_self).trans b)) (OwAll.dp f ss _ _ c fun x hx => k x (List.mem_cons_of_mem _ hx))
  | .tu ss, _, _, h, k => by
    cases h with
    | tu a b c =>
      rw [S.toD]
      exact .tup (.inl (.inl ((k _ List.mem_cons_self).trans b))) (OwAll.dp f ss _ _ c fun x hx => k x (List.mem_cons_of_mem _ hx))
theorem OwAll.dp {K : PySem.W.Frag} {F H G : Hp} (f : Same F G) : ∀ (ss : List S) (vs : List V) (as : List Addr), OwAll K F H vs ss as → (∀ a ∈ as, G a = H a) → DpAll K G vs (toDs ss)
  | [], _, _, h, _ => by cases h; exact .nil
  | s :: ss, _, _, h, k => by
    cases h with
    | cons a b => exact .cons (Ow.dp f s _ _ a fun x hx => k x (List.mem_append_left _ hx)) (OwAll.dp f ss _ _ b fun x hx => k x (List.mem_append_right _ hx))
end
theorem OwAll.len {K : PySem.W.Frag} {F H : Hp} : ∀ {vs : List V} {ss : List S} {as : List Addr}, OwAll K F H vs ss as → vs.length = ss.length
  | _, _, _, .nil => rfl
  | _, _, _, .cons _ t => by simp [OwAll.len t]
theorem OwAll.app {K : PySem.W.Frag} {F H : Hp} : ∀ {vs : List V} {ss : List S} {as : List Addr} {ws : List V} {ts : List S} {bs : List Addr}, OwAll K F H vs ss as → OwAll K F H ws ts bs → OwAll K F H (vs ++ ws) (ss ++ ts) (as ++ bs)
  | _, _, _, _, _, _, .nil, h => h
  | _, _, _, _, _, _, .cons a t, h => by
    rw [List.append_assoc]
    exact .cons a (OwAll.app t h)
theorem OwAll.ofDp {K : PySem.W.Frag} {F H : Hp} : ∀ {vs : List V} {ds : List D}, DpAll K F vs ds → OwAll K F H vs (ds.map S.fr) []
  | _, _, .nil => .nil
  | _, _, .cons a t => .cons (as := []) (.fr a) (OwAll.ofDp t)
/-- a dict's pairs -/
def Kd (K : PySem.W.Frag) (F : Hp) : List (Key × V) → List (Key × D) → Prop := Paired fun p q => p.1 = q.1 ∧ Dp K F p.2 q.2
theorem Kd.mono {K : PySem.W.Frag} {F F' : Hp} (e : Same F F') {xs : List (Key × V)} {ys : List (Key × D)} (h : Kd K F xs ys) : Kd K F' xs ys := Paired.mapP h fun _ _ z => ⟨z.1, Dp.mono e _ _ z.2⟩
/-- a slot's value (xc: a caught exception) -/
inductive OwS (K : PySem.W.Frag) (F H : Hp) : V → Sl → List Addr → Prop
  | v {v : V} {s : S} {as : List Addr} : Ow K F H v s as → OwS K F H v (.v s) as
  | m {a : Addr} {kvs : List (Key × V)} {kds : List (Key × D)} : F a = none → H a = some (.dK kvs) → Kd K F kvs kds → OwS K F H (.ref a) (.m kds) [a]
  | xc (a : Addr) : OwS K F H (.ref a) (.xc a) []
theorem OwS.mono {K : PySem.W.Frag} {F F' H H' : Hp} (e : Same F F') {s : Sl} {v : V} {as : List Addr} (h : OwS K F H v s as) (k : ∀ a ∈ as, F' a = none ∧ H' a = H a) : OwS K F' H' v s as := by
  cases h with
  | v h => exact .v (h.mono e _ _ _ k)
  | m a b c =>
    have k0 := k _ List.mem_cons_self
    exact .m k0.1 (k0.2.trans b) (c.mono e)
  | xc a => exact .xc a
theorem OwS.at {K : PySem.W.Frag} {F H : Hp} {s : Sl} {v : V} {as : List Addr} (h : OwS K F H v s as) : ∀ a ∈ as, F a = none ∧ ∃ o, H a = some o ∧ noTb o = true := by
  cases h with
  | v h => exact fun a ha => h.at _ _ _ a ha
  | m a b c =>
    intro x hx
    rcases List.mem_cons.mp hx with e | e
    · subst e; exact ⟨a, _, b, rfl⟩
    · cases e
  | xc a => exact fun b hb => by cases hb
/-- the slots -/
inductive OwEn (K : PySem.W.Frag) (F H : Hp) : L2.St → En → List Addr → Prop
  | nil : OwEn K F H [] [] []
  | un {x : Option V} {σ : L2.St} {env : En} {as : List Addr} : OwEn K F H σ env as → OwEn K F H (x :: σ) (none :: env) as
  | so {v : V} {s : Sl} {σ : L2.St} {env : En} {bs as : List Addr} : OwS K F H v s bs → OwEn K F H σ env as → OwEn K F H (some v :: σ) (some s :: env) (bs ++ as)
theorem OwEn.mono {K : PySem.W.Frag} {F F' H H' : Hp} (e : Same F F') : ∀ {σ : L2.St} {env : En} {as : List Addr}, OwEn K F H σ env as → (∀ a ∈ as, F' a = none ∧ H' a = H a) → OwEn K F' H' σ env as
  | _, _, _, .nil, _ => .nil
  | _, _, _, .un t, k => .un (OwEn.mono e t k)
  | _, _, _, .so h t, k => .so (h.mono e fun x hx => k x (List.mem_append_left _ hx)) (OwEn.mono e t fun x hx => k x (List.mem_append_right _ hx))
theorem OwEn.at {K : PySem.W.Frag} {F H : Hp} : ∀ {σ : L2.St} {env : En} {as : List Addr}, OwEn K F H σ env as → ∀ a ∈ as, F a = none ∧ ∃ o, H a = some o ∧ noTb o = true
  | _, _, _, .nil, a, ha => by cases ha
  | _, _, _, .un t, a, ha => OwEn.at t a ha
  | _, _, _, .so h t, a, ha => by
    rcases List.mem_append.mp ha with e | e
    · exact h.at a e
    · exact OwEn.at t a e
theorem OwEn.len {K : PySem.W.Frag} {F H : Hp} : ∀ {σ : L2.St} {env : En} {as : List Addr}, OwEn K F H σ env as → σ.length = env.length
  | _, _, _, .nil => rfl
  | _, _, _, .un t => by simp [OwEn.len t]
  | _, _, _, .so _ t => by simp [OwEn.len t]
theorem OwEn.get {K : PySem.W.Frag} {F H : Hp} : ∀ {σ : L2.St} {env : En} {as : List Addr} {i : Nat} {s : Sl}, OwEn K F H σ env as → env[i]? = some (some s) → ∃ v bs, σ[i]? = some (some v) ∧ OwS K F H v s bs ∧ bs.Sublist as
  | _, _, _, _, _, .nil, e => by simp at e
  | _, _, _, 0, _, .un t, e => by simp at e
  | _, _, _, i + 1, _, .un t, e => OwEn.get (i := i) t (by simpa using e)
  | _, _, _, 0, _, .so h t, e => by
    simp at e; subst e
    exact ⟨_, _, rfl, h, List.sublist_append_left _ _⟩
  | _, _, _, i + 1, _, .so h t, e => by
    obtain ⟨v, bs, h1, h2, h3⟩ := OwEn.get (i := i) t (by simpa using e)
    exact ⟨v, bs, by simpa using h1, h2, h3.trans (List.sublist_append_right _ _)⟩
/-- another value at a slot: the old one's lists are forgotten -/
theorem OwEn.set {K : PySem.W.Frag} {F H : Hp} {v : V} {s : Sl} {bs : List Addr} (hv : OwS K F H v s bs) : ∀ {σ : L2.St} {env : En} {as : List Addr} (i : Nat), OwEn K F H σ env as → as.Nodup → bs.Nodup → (∀ a ∈ bs, a ∉ as) →
    ∃ cs, OwEn K F H (σ.set i (some v)) (env.set i (some s)) cs ∧ cs.Nodup ∧ ∀ a ∈ cs, a ∈ as ∨ a ∈ bs
  | _, _, _, i, .nil, n, m, k => ⟨[], .nil, .nil, fun a ha => by cases ha⟩
  | _, _, _, 0, .un t, n, m, k => ⟨_, .so hv t, List.nodup_append.mpr ⟨m, n, fun a ha b hb e => k a ha (e ▸ hb)⟩, fun a ha => (List.mem_append.mp ha).symm⟩
  | _, _, _, i + 1, .un t, n, m, k => by
    obtain ⟨cs, h1, h2, h3⟩ := OwEn.set hv i t n m k
    exact ⟨cs, .un h1, h2, h3⟩
  | _, _, _, 0, .so (bs := ds) (as := as) h t, n, m, k => by
    have n' := List.nodup_append.mp n
    exact ⟨_, .so hv t, List.nodup_append.mpr ⟨m, n'.2.1, fun a ha b hb e => k a ha (List.mem_append_right _ (e ▸ hb))⟩, fun a ha => (List.mem_append.mp ha).elim .inr fun z => .inl (List.mem_append_right _ z)⟩
  | _, _, _, i + 1, .so (bs := ds) (as := as) h t, n, m, k => by
    have n' := List.nodup_append.mp n
    obtain ⟨cs, h1, h2, h3⟩ := OwEn.set hv i t n'.2.1 m fun a ha z => k a ha (List.mem_append_right _ z)
    refine ⟨_, .so h h1, List.nodup_append.mpr ⟨n'.1, h2, fun a ha b hb e => ?_⟩, fun a ha => ?_⟩
    · subst e
      rcases h3 a hb with z | z
      · exact n'.2.2 a ha a z rfl
      · exact k a z (List.mem_append_left _ ha)
    · rcases List.mem_append.mp ha with z | z
      · exact .inl (List.mem_append_left _ z)
      · exact (h3 a z).imp (List.mem_append_right _) id
/-- a slot of which nothing more is said -/
theorem OwEn.drop {K : PySem.W.Frag} {F H : Hp} {x : Option V} : ∀ {σ : L2.St} {env : En} {as : List Addr} (i : Nat), OwEn K F H σ env as → as.Nodup →
    ∃ cs, OwEn K F H (σ.set i x) (env.set i none) cs ∧ cs.Nodup ∧ ∀ a ∈ cs, a ∈ as
  | _, _, _, i, .nil, n => ⟨[], .nil, .nil, fun a ha => ha⟩
  | _, _, _, 0, .un t, n => ⟨_, .un t, n, fun a ha => ha⟩
  | _, _, _, i + 1, .un t, n => by
    obtain ⟨cs, h1, h2, h3⟩ := OwEn.drop i t n
    exact ⟨cs, .un h1, h2, h3⟩
  | _, _, _, 0, .so h t, n => ⟨_, .un t, (List.nodup_append.mp n).2.1, fun a ha => List.mem_append_right _ ha⟩
  | _, _, _, i + 1, .so h t, n => by
    have n' := List.nodup_append.mp n
    obtain ⟨cs, h1, h2, h3⟩ := OwEn.drop i t n'.2.1
    exact ⟨_, .so h h1, List.nodup_append.mpr ⟨n'.1, h2, fun a ha b hb e => n'.2.2 a ha b (h3 b hb) e⟩, fun a ha => (List.mem_append.mp ha).elim (List.mem_append_left _) fun z => List.mem_append_right _ (h3 a z)⟩

/-- a slot's own list gets another content -/
theorem OwEn.mut {K : PySem.W.Frag} {F H : Hp} : ∀ {σ : L2.St} {env : En} {as : List Addr} {i : Nat} {ss : List S}, OwEn K F H σ env as → as.Nodup → env[i]? = some (some (.v (.ow ss))) →
    ∃ a vs bs, σ[i]? = some (some (.ref a)) ∧ F a = none ∧ H a = some (.lst vs) ∧ OwAll K F H vs ss bs ∧ a ∈ as ∧ a ∉ bs ∧ bs.Nodup ∧ (∀ b ∈ bs, b ∈ as) ∧
      ∀ vs' ss' cs, OwAll K F H vs' ss' cs → a ∉ cs → cs.Nodup → (∀ b ∈ cs, b ∈ bs ∨ b ∉ as) → ∃ ds, OwEn K F (upd H a (.lst vs')) σ (env.set i (some (.v (.ow ss')))) ds ∧ ds.Nodup ∧ ∀ b ∈ ds, b ∈ as ∨ b ∈ cs
  | _, _, _, _, _, .nil, _, e => by simp at e
  | _, _, _, 0, _, .un t, _, e => by simp at e
  | _, _, _, i + 1, _, .un t, n, e => by
    obtain ⟨a, vs, bs, h1, h2, h3, h4, h5, h6, h7, h8, h9⟩ := OwEn.mut (i := i) t n (by simpa using e)
    refine ⟨a, vs, bs, by simpa using h1, h2, h3, h4, h5, h6, h7, h8, fun vs' ss' cs q1 q2 q3 q4 => ?_⟩
    obtain ⟨ds, r1, r2, r3⟩ := h9 vs' ss' cs q1 q2 q3 q4
    exact ⟨ds, .un r1, r2, r3⟩
  | _, _, _, 0, _, .so (as := as) h t, n, e => by
    simp at e; subst e
    cases h with
    | v h =>
      cases h with
      | @ow a vs _ bs p q o =>
        have n' := List.nodup_append.mp n
        have na := List.nodup_cons.mp n'.1
        refine ⟨a, vs, bs, rfl, p, q, o, List.mem_append_left _ List.mem_cons_self, na.1, na.2, fun b hb => List.mem_append_left _ (List.mem_cons_of_mem _ hb), fun vs' ss' cs q1 q2 q3 q4 => ?_⟩
        have ta : ∀ b ∈ as, b ≠ a := fun b hb z => n'.2.2 a List.mem_cons_self b hb z.symm
        refine ⟨(a :: cs) ++ as, .so (.v (.ow p upd_same (OwAll.mono (Same.refl _) _ _ _ q1 fun b hb => ⟨(q1.at _ _ _ b hb).1, upd_ne fun z => q2 (z ▸ hb)⟩))) (t.mono (Same.refl _) fun b hb => ⟨(t.at b hb).1, upd_ne (ta b hb)⟩), ?_, ?_⟩
        · refine List.nodup_append.mpr ⟨List.nodup_cons.mpr ⟨q2, q3⟩, n'.2.1, fun x hx y hy z => ?_⟩
          subst z
          rcases List.mem_cons.mp hx with z | z
          · exact ta x hy z
          · rcases q4 x z with w | w
            · exact n'.2.2 x (List.mem_cons_of_mem _ w) x hy rfl
            · exact w (List.mem_append_right _ hy)
        · intro b hb
          rcases List.mem_append.mp hb with z | z
          · rcases List.mem_cons.mp z with w | w
            · exact .inl (by rw [w]; exact List.mem_append_left _ List.mem_cons_self)
            · exact .inr w
          · exact .inl (List.mem_append_right _ z)
  | _, _, _, i + 1, _, .so (bs := hs) (as := as) h t, n, e => by
    have n' := List.nodup_append.mp n
    obtain ⟨a, vs, bs, h1, h2, h3, h4, h5, h6, h7, h8, h9⟩ := OwEn.mut (i := i) t n'.2.1 (by simpa using e)
    refine ⟨a, vs, bs, by simpa using h1, h2, h3, h4, List.mem_append_right _ h5, h6, h7, fun b hb => List.mem_append_right _ (h8 b hb), fun vs' ss' cs q1 q2 q3 q4 => ?_⟩
    obtain ⟨ds, r1, r2, r3⟩ := h9 vs' ss' cs q1 q2 q3 fun b hb => (q4 b hb).imp id fun z w => z (List.mem_append_right _ w)
    have ha : ∀ b ∈ hs, b ≠ a := fun b hb z => n'.2.2 b hb a h5 z
    refine ⟨hs ++ ds, .so (h.mono (Same.refl _) fun b hb => ⟨(h.at b hb).1, upd_ne (ha b hb)⟩) r1, List.nodup_append.mpr ⟨n'.1, r2, fun x hx y hy z => ?_⟩, fun b hb => ?_⟩
    · subst z
      rcases r3 x hy with w | w
      · exact n'.2.2 x hx x w rfl
      · rcases q4 x w with u | u
        · exact n'.2.2 x hx x (h8 x u) rfl
        · exact u (List.mem_append_left _ hx)
    · rcases List.mem_append.mp hb with z | z
      · exact .inl (List.mem_append_left _ z)
      · exact (r3 b z).imp (List.mem_append_right _) id
theorem Same.upd {F H : Hp} (h : Same F H) (p : Addr) (o : HO) (nf : F p = none) : Same (L2.upd F p o) (L2.upd H p o) := ⟨fun b u e hn => by
  by_cases hb : b = p
  · subst hb; rw [upd_same] at e ⊢; exact e
  · rw [upd_ne hb] at e ⊢; exact h.k _ _ e hn, fun b ps e => by
  by_cases hb : b = p
  · subst hb; rw [upd_same] at e ⊢; exact ⟨#[], by rw [Array.append_empty]; exact e, by rw [Array.append_empty]; exact id⟩
  · rw [upd_ne hb] at e ⊢; exact h.t _ _ e⟩
theorem Same.updR {F H : Hp} (h : Same F H) (p : Addr) (o : HO) (nf : F p = none) : Same F (L2.upd H p o) := ⟨fun b u e hn => by
  rw [upd_ne (fun z => by rw [z, nf] at e; cases e)]; exact h.k _ _ e hn, fun b ps e => by
  rw [upd_ne (fun z => by rw [z, nf] at e; cases e)]; exact h.t _ _ e⟩
theorem BSame.updR [Tabs] {F H : Hp} (h : BSame F H) (p : Addr) (o : HO) (nf : F p = none) : BSame F (L2.upd H p o) := ⟨h.s.updR p o nf, h.tg⟩
theorem Same.mixF {F H : Hp} {as : List Addr} (hn : ∀ a ∈ as, F a = none) : Same F (fun a => if a ∈ as then H a else F a) := .of fun a u e => by
  have h : a ∉ as := fun z => by rw [hn a z] at e; cases e
  show (if a ∈ as then H a else F a) = some u
  rw [if_neg h]; exact e
theorem Same.mixH {F H : Hp} {as : List Addr} (h : Same F H) : Same (fun a => if a ∈ as then H a else F a) H := ⟨fun a u e hn => by
  split at e
  · exact e
  · exact h.k a u e hn, fun a ps e => by
  split at e
  · exact ⟨#[], by rw [Array.append_empty]; exact e, by rw [Array.append_empty]; exact id⟩
  · exact h.t a ps e⟩
variable [Tabs]
/-- B: the heap at the entry; F: what may be shared; H: the heap now -/
structure Rel (K : PySem.W.Frag) (B F H : Hp) (env : En) (σ : L2.St) : Prop where
  bh : BSame B H
  fh : Same F H
  sl : ∃ as, OwEn K F H σ env as ∧ as.Nodup ∧ ∀ a ∈ as, B a = none
/-- behind an expression: nothing of what was is changed; what is shared anew is new -/
structure After (F H F' H' : Hp) : Prop where
  ff : Same F F'
  fh : Same F' H'
  hh : Same H H'
  nw : ∀ a o, F' a = some o → F a = none → H a = none
theorem After.refl {F H : Hp} (h : Same F H) : After F H F H := ⟨Same.refl _, h, Same.refl _, fun a o e n => by rw [n] at e; cases e⟩
theorem After.trans {F H F1 H1 F2 H2 : Hp} (a : After F H F1 H1) (b : After F1 H1 F2 H2) : After F H F2 H2 :=
  ⟨a.ff.trans b.ff, b.fh, a.hh.trans b.hh, fun x o e n => by
    cases q : F1 x with
    | some u => exact a.nw x u q n
    | none => exact a.hh.free (b.nw x o e q)⟩
theorem After.keepO {F H F' H' : Hp} (x : After F H F' H') {a : Addr} (h : F a = none ∧ ∃ o, H a = some o ∧ noTb o = true) : F' a = none ∧ H' a = H a := by
  obtain ⟨h1, o, h2, h3⟩ := h
  refine ⟨?_, (x.hh _ _ h2 h3).trans h2.symm⟩
  cases q : F' a with
  | none => rfl
  | some u =>
    have := x.nw a u q h1
    rw [h2] at this; cases this
theorem Rel.after {K : PySem.W.Frag} {B F H F' H' : Hp} {env : En} {σ : L2.St} (r : Rel K B F H env σ) (x : After F H F' H') : Rel K B F' H' env σ := by
  obtain ⟨as, h1, h2, h3⟩ := r.sl
  exact ⟨r.bh.trans x.hh, x.fh, as, h1.mono x.ff fun a ha => x.keepO (h1.at a ha), h2, h3⟩
/-- a new object -/
theorem After.new {F H : Hp} (h : Same F H) {p : Addr} {o : HO} (n : H p = none) : After F H (upd F p o) (upd H p o) := by
  have nf : F p = none := h.free n
  refine ⟨.of fun b u e => ?_, h.upd p o nf, .of fun b u e => ?_, fun b u e q => ?_⟩
  · rw [upd_ne (ne_of_none e nf)]; exact e
  · rw [upd_ne (ne_of_none e n)]; exact e
  · by_cases hb : b = p
    · subst hb; exact n
    · rw [upd_ne hb] at e
      rw [q] at e; cases e
/-- a new object that is not shared -/
theorem After.newO {F H : Hp} (h : Same F H) {p : Addr} {o : HO} (n : H p = none) : After F H F (upd H p o) := by
  have hh : Same H (upd H p o) := .of fun b u e => by rw [upd_ne (ne_of_none e n)]; exact e
  exact ⟨Same.refl _, h.trans hh, hh, fun b u e q => by rw [q] at e; cases e⟩
end DL
namespace DL
open PySem PySem.Spec PyProof.Rows L2
variable [Tabs]
/-- how an answer is known: f, it may be shared; q, a list whose items may be; h, by the heap as it stands -/
inductive Md where | f | q | h
def Rp (K : PySem.W.Frag) (m : Md) (F H : Hp) (v : V) (d : D) : Prop := match m with
  | .f => Dp K F v d
  | .q => Dp K F v d ∨ ∃ a vs ds, v = .ref a ∧ d = .list ds ∧ SqL K H a vs ∧ DpAll K F vs ds
  | .h => Dp K H v d
section
variable {K : PySem.W.Frag} {F H F' H' : Hp} {v : V} {d : D}
theorem Rp.after {m : Md} (r : Rp K m F H v d) (x : After F H F' H') : Rp K m F' H' v d := by
  cases m with
  | f => exact Dp.mono x.ff _ _ r
  | q =>
    rcases r with r | ⟨a, vs, ds, e1, e2, h1, h2⟩
    · exact .inl (Dp.mono x.ff _ _ r)
    · exact .inr ⟨a, vs, ds, e1, e2, x.hh.seq h1, DpAll.mono x.ff _ _ h2⟩
  | h => exact Dp.mono x.hh _ _ r
theorem Rp.toH {m : Md} (r : Rp K m F H v d) (s : Same F H) : Dp K H v d := by
  cases m with
  | f => exact Dp.mono s _ _ r
  | q =>
    rcases r with r | ⟨a, vs, ds, e1, e2, h1, h2⟩
    · exact Dp.mono s _ _ r
    · subst e1; subst e2
      exact .lst h1 (DpAll.mono s _ _ h2)
  | h => exact r
theorem Rp.ofF {m : Md} (r : Dp K F v d) (s : Same F H) : Rp K m F H v d := by
  cases m with
  | f => exact r
  | q => exact .inl r
  | h => exact Dp.mono s _ _ r
def sca : D → Bool
  | .none | .bool _ | .int _ | .str _ => true
  | _ => false
theorem Dp.ofSca (h : sca d = true) (r : Dp K F v d) : Dp K F' v d := by
  cases r with
  | non => exact .non
  | bl b => exact .bl b
  | int i => exact .int i
  | str x => exact .str x
  | lst _ _ => cases h
  | tup _ _ => cases h
theorem Rp.sc {m m' : Md} (h : sca d = true) (r : Rp K m F H v d) : Rp K m' F' H' v d := by
  have z : ∃ G, Dp K G v d := by
    cases m with
    | f => exact ⟨_, r⟩
    | q =>
      rcases r with r | ⟨a, vs, ds, e1, e2, h1, h2⟩
      · exact ⟨_, r⟩
      · subst e2; cases h
    | h => exact ⟨_, r⟩
  obtain ⟨G, z⟩ := z
  cases m' with
  | f => exact Dp.ofSca h z
  | q => exact .inl (Dp.ofSca h z)
  | h => exact Dp.ofSca h z
theorem Rp.int {m : Md} (i : Int) : Rp K m F H (.int i) (.int i) := Rp.sc (m := .f) (F := F) (H := H) rfl (Dp.int i)
theorem Rp.bl {m : Md} (i : Bool) : Rp K m F H (.bl i) (.bool i) := Rp.sc (m := .f) (F := F) (H := H) rfl (Dp.bl i)
theorem Rp.str {m : Md} (i : Str) : Rp K m F H (.str i) (.str i) := Rp.sc (m := .f) (F := F) (H := H) rfl (Dp.str i)
theorem Rp.non {m : Md} : Rp K m F H .non .none := Rp.sc (m := .f) (F := F) (H := H) rfl Dp.non
theorem Rp.intI {m : Md} {i : Int} (r : Rp K m F H v (.int i)) : v = .int i := by
  have z : Dp K F v (.int i) := Rp.sc (m := m) (m' := .f) (F := F) (H := H) (F' := F) (H' := H) rfl r
  cases z; rfl
theorem Rp.blI {m : Md} {i : Bool} (r : Rp K m F H v (.bool i)) : v = .bl i := by
  have z : Dp K F v (.bool i) := Rp.sc (m := m) (m' := .f) (F := F) (H := H) (F' := F) (H' := H) rfl r
  cases z; rfl
theorem Rp.strI {m : Md} {i : Str} (r : Rp K m F H v (.str i)) : v = .str i := by
  have z : Dp K F v (.str i) := Rp.sc (m := m) (m' := .f) (F := F) (H := H) (F' := F) (H' := H) rfl r
  cases z; rfl
theorem Rp.nonI {m : Md} (r : Rp K m F H v .none) : v = .non := by
  have z : Dp K F v .none := Rp.sc (m := m) (m' := .f) (F := F) (H := H) (F' := F) (H' := H) rfl r
  cases z; rfl
/-- the items of a list or tuple, of mode f or q -/
theorem Rp.items {m : Md} {ds : List D} (hm : m ≠ .h) (r : Rp K m F H v (.list ds)) (s : Same F H) : ∃ a vs, v = .ref a ∧ SqL K H a vs ∧ DpAll K F vs ds := by
  cases m with
  | f => cases r with | lst a b => exact ⟨_, _, rfl, s.seq a, b⟩
  | q =>
    rcases r with r | ⟨a, vs, ds, e1, e2, h1, h2⟩
    · cases r with | lst a b => exact ⟨_, _, rfl, s.seq a, b⟩
    · cases e2; exact ⟨_, _, e1, h1, h2⟩
  | h => exact absurd rfl hm
theorem Rp.itemsT {m : Md} {ds : List D} (hm : m ≠ .h) (r : Rp K m F H v (.tuple ds)) (s : Same F H) : ∃ a vs, v = .ref a ∧ SqT K H a vs ∧ DpAll K F vs ds := by
  cases m with
  | f => cases r with | tup a b => exact ⟨_, _, rfl, SqT.same s a, b⟩
  | q =>
    rcases r with r | ⟨a, vs, ds, e1, e2, h1, h2⟩
    · cases r with | tup a b => exact ⟨_, _, rfl, SqT.same s a, b⟩
    · cases e2
  | h => exact absurd rfl hm
end
inductive RpL (K : PySem.W.Frag) (F H : Hp) : List Md → List V → List D → Prop
  | nil : RpL K F H [] [] []
  | cons {m : Md} {v : V} {d : D} {ms : List Md} {vs : List V} {ds : List D} : Rp K m F H v d → RpL K F H ms vs ds → RpL K F H (m :: ms) (v :: vs) (d :: ds)
theorem RpL.after {K : PySem.W.Frag} {F H F' H' : Hp} {ms : List Md} {vs : List V} {ds : List D} (r : RpL K F H ms vs ds) (x : After F H F' H') : RpL K F' H' ms vs ds := by
  induction r with
  | nil => exact .nil
  | cons a _ ih => exact .cons (a.after x) ih

section
variable (K : PySem.W.Frag) (ec : Str → Value) (W : WX) (m : Md) (F H : Hp) (σ : L2.St)
/-- what an outcome asks of what follows -/
def PoE (Q : VK) : R D → Prop
  | .ok d => ∀ v H' F', After F H F' H' → Rp K m F' H' v d → Q v H'
  | .er c => ∀ H' F', After F H F' H' → W (ec c) none σ H'
  | .no => False
def PoT (Q : Bool → Hp → Prop) : R Bool → Prop
  | .ok b => ∀ H' F', After F H F' H' → Q b H'
  | .er c => ∀ H' F', After F H F' H' → W (ec c) none σ H'
  | .no => False
def PoA (ms : List Md) (Q : List V → Hp → Prop) : R (List D) → Prop
  | .ok ds => ∀ vs H' F', After F H F' H' → RpL K F' H' ms vs ds → Q vs H'
  | .er c => ∀ H' F', After F H F' H' → W (ec c) none σ H'
  | .no => False
/-- a fresh value: its own lists are new and not shared -/
def PoO (Q : VK) : R S → Prop
  | .ok s => ∀ v H' F' as, After F H F' H' → Ow K F' H' v s as → as.Nodup → (∀ a ∈ as, H a = none) → Q v H'
  | .er c => ∀ H' F', After F H F' H' → W (ec c) none σ H'
  | .no => False
end
section
variable {K : PySem.W.Frag} {ec : Str → Value} {W : WX} {m m' : Md} {F H F' H' : Hp} {σ : L2.St}
theorem PoE.after {Q : VK} {r : R D} (p : PoE K ec W m F H σ Q r) (x : After F H F' H') : PoE K ec W m F' H' σ Q r := by
  cases r with
  | ok d => exact fun v H2 F2 a r => p v H2 F2 (x.trans a) r
  | er c => exact fun H2 F2 a => p H2 F2 (x.trans a)
  | no => exact p
theorem PoT.after {Q : Bool → Hp → Prop} {r : R Bool} (p : PoT ec W F H σ Q r) (x : After F H F' H') : PoT ec W F' H' σ Q r := by
  cases r with
  | ok d => exact fun H2 F2 a => p H2 F2 (x.trans a)
  | er c => exact fun H2 F2 a => p H2 F2 (x.trans a)
  | no => exact p
theorem PoA.after {ms : List Md} {Q : List V → Hp → Prop} {r : R (List D)} (p : PoA K ec W F H σ ms Q r) (x : After F H F' H') : PoA K ec W F' H' σ ms Q r := by
  cases r with
  | ok d => exact fun v H2 F2 a r => p v H2 F2 (x.trans a) r
  | er c => exact fun H2 F2 a => p H2 F2 (x.trans a)
  | no => exact p
theorem PoO.after {Q : VK} {r : R S} (p : PoO K ec W F H σ Q r) (x : After F H F' H') : PoO K ec W F' H' σ Q r := by
  cases r with
  | ok s => exact fun v H2 F2 as a o n fr => p v H2 F2 as (x.trans a) o n fun b hb => x.hh.free (fr b hb)
  | er c => exact fun H2 F2 a => p H2 F2 (x.trans a)
  | no => exact p
end

section
variable (K : PySem.W.Frag) (ec : Str → Value) (W : WX) (m : Md)
def tD (f : En → R D) : TE := fun σ H Q => ∃ B F env, Rel K B F H env σ ∧ PoE K ec W m F H σ Q (f env)
def tT (f : En → R Bool) : TT := fun σ H Q => ∃ B F env, Rel K B F H env σ ∧ PoT ec W F H σ Q (f env)
def tA (ms : List Md) (f : En → R (List D)) : TA := fun σ H Q => ∃ B F env, Rel K B F H env σ ∧ PoA K ec W F H σ ms Q (f env)
def tO (f : En → R S) : TE := fun σ H Q => ∃ B F env, Rel K B F H env σ ∧ PoO K ec W F H σ Q (f env)
end
def ecOf (mg : Str → Option Value) : Str → Value := fun c => (mg c).getD .none
/-- expressions: e answers f of the slots -/
def DE (X : Cx) (W : WX) (m : Md) (e : Expr) (f : En → R D) : Prop := PE X e (tD X.K (ecOf X.mg) W m f)
def DT (X : Cx) (W : WX) (e : Expr) (f : En → R Bool) : Prop := PT X e (tT X.K (ecOf X.mg) W f)
def DA (X : Cx) (W : WX) (ms : List Md) (es : List Expr) (f : En → R (List D)) : Prop := PA X es (tA X.K (ecOf X.mg) W ms f)
def DO (X : Cx) (W : WX) (e : Expr) (f : En → R S) : Prop := PE X e (tO X.K (ecOf X.mg) W f)
theorem _root_.L2.PE.wk {X : Cx} {e : Expr} {t t' : TE} (h : PE X e t) (k : ∀ σ H Q, t' σ H Q → t σ H Q) : PE X e t' := ⟨fun pins s σ H Q I q => h.run pins s σ H Q I (k _ _ _ q)⟩
theorem _root_.L2.PT.wk {X : Cx} {e : Expr} {t t' : TT} (h : PT X e t) (k : ∀ σ H Q, t' σ H Q → t σ H Q) : PT X e t' := ⟨fun pins s σ H Q I q => h.run pins s σ H Q I (k _ _ _ q)⟩
theorem _root_.L2.PA.wk {X : Cx} {e : List Expr} {t t' : TA} (h : PA X e t) (k : ∀ σ H Q, t' σ H Q → t σ H Q) : PA X e t' := ⟨fun pos pins s σ H Q I q => h.run pos pins s σ H Q I (k _ _ _ q)⟩

section
variable {X : Cx} {W : WX} {m m1 m2 : Md} {pos : Pos} {j : Nat}
/-- from a part's rule: what follows a bind -/
theorem tD.bind {K : PySem.W.Frag} {ec : Str → Value} {B F H : Hp} {env : En} {σ : L2.St} {f : En → R D} {k : D → R D} {Q : VK} (r : Rel K B F H env σ) (p : PoE K ec W m F H σ Q ((f env).bind k))
    {Q' : VK} (h : ∀ v H' F' d, After F H F' H' → Rel K B F' H' env σ → Rp K m1 F' H' v d → PoE K ec W m F' H' σ Q (k d) → Q' v H') : tD K ec W m1 f σ H Q' := by
  refine ⟨B, F, env, r, ?_⟩
  cases e : f env with
  | ok d => rw [e] at p; exact fun v H' F' a q => h v H' F' d a (r.after a) q (PoE.after (r := k d) p a)
  | er c => rw [e] at p; exact p
  | no => rw [e] at p; exact p
theorem tD.bindT {K : PySem.W.Frag} {ec : Str → Value} {B F H : Hp} {env : En} {σ : L2.St} {f : En → R D} {k : D → R Bool} {Q : Bool → Hp → Prop} (r : Rel K B F H env σ) (p : PoT ec W F H σ Q ((f env).bind k))
    {Q' : VK} (h : ∀ v H' F' d, After F H F' H' → Rel K B F' H' env σ → Rp K m1 F' H' v d → PoT ec W F' H' σ Q (k d) → Q' v H') : tD K ec W m1 f σ H Q' := by
  refine ⟨B, F, env, r, ?_⟩
  cases e : f env with
  | ok d => rw [e] at p; exact fun v H' F' a q => h v H' F' d a (r.after a) q (PoT.after (r := k d) p a)
  | er c => rw [e] at p; exact p
  | no => rw [e] at p; exact p
theorem tD.bindA {K : PySem.W.Frag} {ec : Str → Value} {B F H : Hp} {env : En} {σ : L2.St} {f : En → R D} {k : D → R (List D)} {ms : List Md} {Q : List V → Hp → Prop} (r : Rel K B F H env σ) (p : PoA K ec W F H σ ms Q ((f env).bind k))
    {Q' : VK} (h : ∀ v H' F' d, After F H F' H' → Rel K B F' H' env σ → Rp K m1 F' H' v d → PoA K ec W F' H' σ ms Q (k d) → Q' v H') : tD K ec W m1 f σ H Q' := by
  refine ⟨B, F, env, r, ?_⟩
  cases e : f env with
  | ok d => rw [e] at p; exact fun v H' F' a q => h v H' F' d a (r.after a) q (PoA.after (r := k d) p a)
  | er c => rw [e] at p; exact p
  | no => rw [e] at p; exact p
theorem tT.bind {K : PySem.W.Frag} {ec : Str → Value} {B F H : Hp} {env : En} {σ : L2.St} {f : En → R Bool} {k : Bool → R D} {Q : VK} (r : Rel K B F H env σ) (p : PoE K ec W m F H σ Q ((f env).bind k))
    {Q' : Bool → Hp → Prop} (h : ∀ b H' F', After F H F' H' → Rel K B F' H' env σ → PoE K ec W m F' H' σ Q (k b) → Q' b H') : tT K ec W f σ H Q' := by
  refine ⟨B, F, env, r, ?_⟩
  cases e : f env with
  | ok d => rw [e] at p; exact fun H' F' a => h d H' F' a (r.after a) (PoE.after (r := k d) p a)
  | er c => rw [e] at p; exact p
  | no => rw [e] at p; exact p
theorem tT.bindT {K : PySem.W.Frag} {ec : Str → Value} {B F H : Hp} {env : En} {σ : L2.St} {f : En → R Bool} {k : Bool → R Bool} {Q : Bool → Hp → Prop} (r : Rel K B F H env σ) (p : PoT ec W F H σ Q ((f env).bind k))
    {Q' : Bool → Hp → Prop} (h : ∀ b H' F', After F H F' H' → Rel K B F' H' env σ → PoT ec W F' H' σ Q (k b) → Q' b H') : tT K ec W f σ H Q' := by
  refine ⟨B, F, env, r, ?_⟩
  cases e : f env with
  | ok d => rw [e] at p; exact fun H' F' a => h d H' F' a (r.after a) (PoT.after (r := k d) p a)
  | er c => rw [e] at p; exact p
  | no => rw [e] at p; exact p
theorem tA.bind {K : PySem.W.Frag} {ec : Str → Value} {B F H : Hp} {env : En} {σ : L2.St} {f : En → R (List D)} {ms : List Md} {k : List D → R D} {Q : VK} (r : Rel K B F H env σ) (p : PoE K ec W m F H σ Q ((f env).bind k))
    {Q' : List V → Hp → Prop} (h : ∀ vs H' F' ds, After F H F' H' → Rel K B F' H' env σ → RpL K F' H' ms vs ds → PoE K ec W m F' H' σ Q (k ds) → Q' vs H') : tA K ec W ms f σ H Q' := by
  refine ⟨B, F, env, r, ?_⟩
  cases e : f env with
  | ok d => rw [e] at p; exact fun v H' F' a q => h v H' F' d a (r.after a) q (PoE.after (r := k d) p a)
  | er c => rw [e] at p; exact p
  | no => rw [e] at p; exact p
theorem tA.bindO {K : PySem.W.Frag} {ec : Str → Value} {B F H : Hp} {env : En} {σ : L2.St} {f : En → R (List D)} {ms : List Md} {k : List D → R S} {Q : VK} (r : Rel K B F H env σ) (p : PoO K ec W F H σ Q ((f env).bind k))
    {Q' : List V → Hp → Prop} (h : ∀ vs H' F' ds, After F H F' H' → Rel K B F' H' env σ → RpL K F' H' ms vs ds → PoO K ec W F' H' σ Q (k ds) → Q' vs H') : tA K ec W ms f σ H Q' := by
  refine ⟨B, F, env, r, ?_⟩
  cases e : f env with
  | ok d => rw [e] at p; exact fun v H' F' a q => h v H' F' d a (r.after a) q (PoO.after (r := k d) p a)
  | er c => rw [e] at p; exact p
  | no => rw [e] at p; exact p
theorem tD.bindO {K : PySem.W.Frag} {ec : Str → Value} {B F H : Hp} {env : En} {σ : L2.St} {f : En → R D} {k : D → R S} {Q : VK} (r : Rel K B F H env σ) (p : PoO K ec W F H σ Q ((f env).bind k))
    {Q' : VK} (h : ∀ v H' F' d, After F H F' H' → Rel K B F' H' env σ → Rp K m1 F' H' v d → PoO K ec W F' H' σ Q (k d) → Q' v H') : tD K ec W m1 f σ H Q' := by
  refine ⟨B, F, env, r, ?_⟩
  cases e : f env with
  | ok d => rw [e] at p; exact fun v H' F' a q => h v H' F' d a (r.after a) q (PoO.after (r := k d) p a)
  | er c => rw [e] at p; exact p
  | no => rw [e] at p; exact p

/-! ### constants and names -/
theorem de_int {i : Int} : DE X W m (.Constant (.int i) j pos) (fun _ => .ok (.int i)) := pe_int.wk fun σ H Q ⟨B, F, env, r, p⟩ => p _ _ _ (After.refl r.fh) (Rp.int i)
theorem de_bl {i : Bool} : DE X W m (.Constant (.bool i) j pos) (fun _ => .ok (.bool i)) := pe_bl.wk fun σ H Q ⟨B, F, env, r, p⟩ => p _ _ _ (After.refl r.fh) (Rp.bl i)
theorem de_str {i : Str} : DE X W m (.Constant (.str i) j pos) (fun _ => .ok (.str i)) := pe_str.wk fun σ H Q ⟨B, F, env, r, p⟩ => p _ _ _ (After.refl r.fh) (Rp.str i)
theorem de_non : DE X W m (.Constant .none j pos) (fun _ => .ok .none) := pe_non.wk fun σ H Q ⟨B, F, env, r, p⟩ => p _ _ _ (After.refl r.fh) Rp.non
def vf (i : Nat) (env : En) : R D := match env[i]? with
  | some (some (.v (.fr d))) => .ok d
  | _ => .no
def allF : List S → Option (List D)
  | [] => some []
  | .fr d :: ss => (allF ss).map (d :: ·)
  | .ow _ :: _ => none
  | .tu _ :: _ => none
theorem OwAll.allF {K : PySem.W.Frag} {F H : Hp} : ∀ {vs : List V} {ss : List S} {as : List Addr} {ds : List D}, OwAll K F H vs ss as → DL.allF ss = some ds → DpAll K F vs ds
  | _, [], _, _, .nil, e => by cases e; exact .nil
  | _, .fr d :: ss, _, ds, .cons a t, e => by
    cases a with
    | fr a =>
      rw [DL.allF] at e
      cases q : DL.allF ss with
      | none => rw [q] at e; cases e
      | some es => rw [q] at e; cases e; exact .cons a (OwAll.allF t q)
  | _, .ow _ :: _, _, _, _, e => by cases e
def vq (i : Nat) (env : En) : R D := match env[i]? with
  | some (some (.v (.fr d))) => .ok d
  | some (some (.v (.ow ss))) => match allF ss with
    | some ds => .ok (.list ds)
    | none => .no
  | _ => .no
def vh (i : Nat) (env : En) : R D := match env[i]? with
  | some (some (.v s)) => .ok s.toD
  | _ => .no
theorem de_var {x : Str} (i : Nat) (hN : X.N[i]? = some x := by rfl) (hv : Vis X.env.scope x := by first | exact Or.inl rfl | exact Or.inr (Or.inl rfl) | exact Or.inr (Or.inr rfl)) (hd : (x == ("__debug__" : Str)) = false := by decide)
    (hcd : (x == ("__classdict__" : Str)) = false := by decide) : DE X W .f (.Name x pos) (vf i) := (pe_var hN hv hd hcd).wk fun σ H Q ⟨B, F, env, r, p⟩ => by
  unfold vf at p
  split at p
  · rename_i d e
    obtain ⟨as, h1, _, _⟩ := r.sl
    obtain ⟨v, bs, q1, q2, _⟩ := h1.get e
    cases q2 with
    | v q2 => cases q2 with | fr q2 => exact ⟨v, q1, p v H F (After.refl r.fh) q2⟩
  · exact p.elim
theorem de_varq {x : Str} (i : Nat) (hN : X.N[i]? = some x := by rfl) (hv : Vis X.env.scope x := by first | exact Or.inl rfl | exact Or.inr (Or.inl rfl) | exact Or.inr (Or.inr rfl)) (hd : (x == ("__debug__" : Str)) = false := by decide)
    (hcd : (x == ("__classdict__" : Str)) = false := by decide) : DE X W .q (.Name x pos) (vq i) := (pe_var hN hv hd hcd).wk fun σ H Q ⟨B, F, env, r, p⟩ => by
  unfold vq at p
  obtain ⟨as, h1, _, _⟩ := r.sl
  split at p
  · rename_i d e
    obtain ⟨v, bs, q1, q2, _⟩ := h1.get e
    cases q2 with
    | v q2 => cases q2 with | fr q2 => exact ⟨v, q1, p v H F (After.refl r.fh) (.inl q2)⟩
  · rename_i ss e
    obtain ⟨v, bs, q1, q2, _⟩ := h1.get e
    split at p
    · rename_i ds e2
      cases q2 with
      | v q2 =>
        cases q2 with
        | ow a b c => exact ⟨_, q1, p _ H F (After.refl r.fh) (.inr ⟨_, _, _, rfl, rfl, SqL.of b, c.allF e2⟩)⟩
    · exact p.elim
  · exact p.elim
theorem de_varh {x : Str} (i : Nat) (hN : X.N[i]? = some x := by rfl) (hv : Vis X.env.scope x := by first | exact Or.inl rfl | exact Or.inr (Or.inl rfl) | exact Or.inr (Or.inr rfl)) (hd : (x == ("__debug__" : Str)) = false := by decide)
    (hcd : (x == ("__classdict__" : Str)) = false := by decide) : DE X W .h (.Name x pos) (vh i) := (pe_var hN hv hd hcd).wk fun σ H Q ⟨B, F, env, r, p⟩ => by
  unfold vh at p
  obtain ⟨as, h1, _, _⟩ := r.sl
  split at p
  · rename_i s e
    obtain ⟨v, bs, q1, q2, _⟩ := h1.get e
    cases q2 with
    | v q2 => exact ⟨v, q1, p v H F (After.refl r.fh) (q2.dp r.fh _ _ _ fun _ _ => rfl)⟩
  · exact p.elim
/-- a weaker mode -/
theorem de_up {e : Expr} {f : En → R D} (h : DE X W .f e f) : DE X W m e f := h.wk fun σ H Q ⟨B, F, env, r, p⟩ => ⟨B, F, env, r, by
  cases q : f env with
  | ok d => rw [q] at p; exact fun v H' F' a z => p v H' F' a (Rp.ofF z a.fh)
  | er c => rw [q] at p; exact p
  | no => rw [q] at p; exact p⟩
theorem de_qh {e : Expr} {f : En → R D} (h : DE X W .q e f) : DE X W .h e f := h.wk fun σ H Q ⟨B, F, env, r, p⟩ => ⟨B, F, env, r, by
  cases q : f env with
  | ok d => rw [q] at p; exact fun v H' F' a z => p v H' F' a (Rp.toH z a.fh)
  | er c => rw [q] at p; exact p
  | no => rw [q] at p; exact p⟩
/-- a module's constant -/
theorem de_glob {x : Str} {u : Value} {v : V} {d : D} (hg : Gl X x) (hm : X.mg x = some u) (r : RelV v u) (hd : ∀ F, Dp X.K F v d) (hdb : (x == ("__debug__" : Str)) = false := by decide) : DE X W m (.Name x pos) (fun _ => .ok d) :=
  (pe_glob hg hm r hdb).wk fun σ H Q ⟨B, F, env, r, p⟩ => p v H F (After.refl r.fh) (Rp.ofF (hd F) r.fh)

/-! ### operators -/
/-- a rule of values, and what it is of data -/
def Op2 (K : PySem.W.Frag) (r : R2) (m1 m2 m : Md) (g : D → D → R D) : Prop := ∀ (ec : Str → Value) (W : WX) (σ : L2.St) (F H : Hp) (x y : V) (d e : D) (Q : VK), Same F H → Rp K m1 F H x d → Rp K m2 F H y e → (∀ c, g d e ≠ .er c) → PoE K ec W m F H σ Q (g d e) → r x y H Q
theorem de_bin {op : Operator} {r : R2} {a b : Expr} {fa fb : En → R D} {g : D → D → R D} (ho : OpR X (binaryOp op) r) (hg : Op2 X.K r m1 m2 m g) (he : ∀ d e c, g d e ≠ .er c) (ha : DE X W m1 a fa) (hb : DE X W m2 b fb) :
    DE X W m (.BinOp a op b pos) (fun env => (fa env).bind fun x => (fb env).bind fun y => g x y) :=
  (pe_op ho ha hb).wk fun σ H Q ⟨B, F, env, r, p⟩ => tD.bind r p fun v H1 F1 d a1 r1 q1 p1 => tD.bind r1 p1 fun u H2 F2 e a2 r2 q2 p2 => hg _ _ _ F2 H2 v u d e Q r2.fh (q1.after a2) q2 (he d e) p2
theorem de_cmp {op : CmpOp} {r : R2} {a b : Expr} {fa fb : En → R D} {g : D → D → R D} (ho : OpR X (compareOp op) r) (hg : Op2 X.K r m1 m2 m g) (he : ∀ d e c, g d e ≠ .er c) (ha : DE X W m1 a fa) (hb : DE X W m2 b fb) (hm : behindInMarks op b = false) :
    DE X W m (.Compare a [op] [b] pos) (fun env => (fa env).bind fun x => (fb env).bind fun y => g x y) :=
  (pe_cmpR ho ha hb hm).wk fun σ H Q ⟨B, F, env, r, p⟩ => tD.bind r p fun v H1 F1 d a1 r1 q1 p1 => tD.bind r1 p1 fun u H2 F2 e a2 r2 q2 p2 => hg _ _ _ F2 H2 v u d e Q r2.fh (q1.after a2) q2 (he d e) p2
theorem dt_cmp {op : CmpOp} {r : R2} {a b : Expr} {fa fb : En → R D} {g : D → D → R D} (ho : OpR X (compareOp op) r) (hg : Op2 X.K r m1 m2 .f g) (he : ∀ d e c, g d e ≠ .er c) (ha : DE X W m1 a fa) (hb : DE X W m2 b fb) (hm : behindInMarks op b = false) :
    DT X W (.Compare a [op] [b] pos) (fun env => (fa env).bind fun x => (fb env).bind fun y => (g x y).bind fun z => match z with | .bool k => .ok k | _ => .no) :=
  (pt_cmpR ho ha hb hm).wk fun σ H Q ⟨B, F, env, r, p⟩ => tD.bindT r p fun v H1 F1 d a1 r1 q1 p1 => tD.bindT r1 p1 fun u H2 F2 e a2 r2 q2 p2 => hg (ecOf X.mg) W σ F2 H2 v u d e _ r2.fh (q1.after a2) q2 (he d e) (by
    cases z : g d e with
    | er c => exact absurd z (he d e c)
    | no => rw [z] at p2; exact p2
    | ok w =>
      rw [z] at p2
      intro v' H' F' a q
      cases w <;> first | exact p2.elim | skip
      rename_i k
      exact ⟨k, q.blI, p2 H' F' a⟩)
/-! ints -/
def i2 (f : Int → Int → R D) (x y : D) : R D := match x, y with
  | .int i, .int j => f i j
  | _, _ => .no
theorem i2_ne {f : Int → Int → R D} (h : ∀ i j c, f i j ≠ .er c) : ∀ d e c, i2 f d e ≠ .er c := fun d e c => by
  unfold i2
  split
  · exact h _ _ _
  · exact fun z => nomatch z
def gI (C : Int → Int → Prop) [∀ i j, Decidable (C i j)] (g : Int → Int → Int) : D → D → R D := i2 fun i j => if C i j then .ok (.int (g i j)) else .no
theorem gI_ne {C : Int → Int → Prop} [∀ i j, Decidable (C i j)] {g : Int → Int → Int} : ∀ d e c, gI C g d e ≠ .er c := i2_ne fun i j c => by split <;> exact fun z => nomatch z
theorem gI_op {K : PySem.W.Frag} {C : Int → Int → Prop} [∀ i j, Decidable (C i j)] {g : Int → Int → Int} : Op2 K (rI C fun i j => .int (g i j)) .h .h m (gI C g) := fun ec W σ F H x y d e Q s rx ry he p => by
  unfold gI i2 at p
  split at p
  · rename_i i j
    dsimp only at p
    split at p
    · rename_i hc
      exact ⟨i, j, rx.intI, ry.intI, hc, p _ _ _ (After.refl s) (Rp.int _)⟩
    · exact p.elim
  · exact p.elim
def gI0 (g : Int → Int → Int) : D → D → R D := i2 fun i j => .ok (.int (g i j))
theorem gI0_op {K : PySem.W.Frag} {g : Int → Int → Int} : Op2 K (rI0 fun i j => .int (g i j)) .h .h m (gI0 g) := fun ec W σ F H x y d e Q s rx ry he p => by
  unfold gI0 i2 at p
  split at p
  · rename_i i j
    exact ⟨i, j, rx.intI, ry.intI, p _ _ _ (After.refl s) (Rp.int _)⟩
  · exact p.elim
def gB0 (g : Int → Int → Bool) : D → D → R D := i2 fun i j => .ok (.bool (g i j))
theorem gB0_op {K : PySem.W.Frag} {g : Int → Int → Bool} : Op2 K (rI0 fun i j => .bl (g i j)) .h .h m (gB0 g) := fun ec W σ F H x y d e Q s rx ry he p => by
  unfold gB0 i2 at p
  split at p
  · rename_i i j
    exact ⟨i, j, rx.intI, ry.intI, p _ _ _ (After.refl s) (Rp.bl _)⟩
  · exact p.elim
end
end DL
namespace DL
open PySem PySem.Spec PyProof.Rows L2
variable [Tabs]
section
variable {X : Cx} {W : WX} {m m1 m2 : Md} {pos : Pos} {j : Nat} {a b : Expr} {fa fb : En → R D}

/-! ### + - * // % ** >> & of data -/
/-- list + list, both to be read -/
def rCatL (K : PySem.W.Frag) : R2 := fun x y H Q => ∃ l b xs zs, x = .ref l ∧ y = .ref b ∧ SqL K H l xs ∧ SqL K H b zs ∧ xs.length + zs.length ≤ sizeLine ∧ ∀ p, H p = none → Q (.ref p) (upd H p (.lst (xs ++ zs)))
theorem op_catL : OpR X (binaryOp .Add) (rCatL X.K) := by
  intro pins s σ H x y v u Q I rx ry h
  obtain ⟨l, b, xs, zs, rfl, rfl, hA, hB, hz, q⟩ := h
  cases rx
  cases ry
  obtain ⟨its, r1, p1, _⟩ := I.list hA
  obtain ⟨its2, r2, p2, _⟩ := I.list hB
  obtain ⟨⟨c1, d1, t1, s1⟩, n1, ho, hc, _, hd⟩ := p1
  obtain ⟨⟨c2, d2, t2, s2⟩, n2, ho2, hc2, _, hd2⟩ := p2
  simp only at hc hd hc2 hd2
  subst hc hd hc2 hd2
  have l1 := r1.length
  have l2 := r2.length
  have ez : its.toArray.size + its2.toArray.size ≤ sizeLine := by simp only [List.size_toArray]; omega
  refine concat_meets ⟨_, ho, rfl⟩ ⟨_, ho2, rfl⟩ noFill_list_add seq_list_add F.slot_list_add F.entry_list_add (F.args_list_add_2 _ _)
    (list_addW l b its.toArray its2.toArray n1 n2 d1 d2 s1 s2 ez) ⟨ho, ho2, ?_⟩
  have ea : its.toArray ++ its2.toArray = (its ++ its2).toArray := by simp
  rw [ea]
  exact ⟨.ref _, _, I.laid (t' := s.toks) (o := .lst (xs ++ zs)) (fun b ob q => Heap.get?_push_of_some _ q) (Nat.le_refl _) ⟨by rw [List.length_append]; exact hz, _, 0, r1.append r2, Heap.get?_push_size _ rfl⟩, rfl, q _ (I.hok.fresh (Nat.le_refl _))⟩
def addD (x y : D) : R D := match x, y with
  | .int i, .int j => .ok (.int (i + j))
  | .str x, .str y => if x.length + y.length ≤ sizeLine then .ok (.str (x ++ y)) else .no
  | .list x, .list y => if x.length + y.length ≤ sizeLine then .ok (.list (x ++ y)) else .no
  | .tuple x, .tuple y => if x.length + y.length ≤ sizeLine then .ok (.tuple (x ++ y)) else .no
  | _, _ => .no
def rAddA (K : PySem.W.Frag) : R2 := fun x y H Q => rI0 (fun i j => .int (i + j)) x y H Q ∨ (∃ i j, x = .str i ∧ y = .str j ∧ i.length + j.length ≤ sizeLine ∧ Q (.str (i ++ j)) H) ∨ rCatL K x y H Q ∨ rCatA K x y H Q
theorem op_addA : OpR X (binaryOp .Add) (rAddA X.K) := op_add.or (op_add_str.or (op_catL.or op_catA))
theorem addD_ne : ∀ d e c, addD d e ≠ .er c := fun d e c => by
  unfold addD
  repeat' split
  all_goals exact fun z => nomatch z
theorem addD_op {K : PySem.W.Frag} : Op2 K (rAddA K) .q .q .f addD := fun ec W σ F H x y d e Q s rx ry he p => by
  unfold addD at p
  split at p
  · rename_i i j
    exact .inl ⟨i, j, rx.intI, ry.intI, p _ _ _ (After.refl s) (.int _)⟩
  · rename_i i j
    split at p
    · rename_i hl
      exact .inr (.inl ⟨i, j, rx.strI, ry.strI, hl, p _ _ _ (After.refl s) (.str _)⟩)
    · exact p.elim
  · rename_i xs ys
    split at p
    · rename_i hl
      obtain ⟨a, vs, rfl, h1, h2⟩ := rx.items (by intro z; cases z) s
      obtain ⟨b, us, rfl, h3, h4⟩ := ry.items (by intro z; cases z) s
      have e1 := h2.len
      have e2 := h4.len
      exact .inr (.inr (.inl ⟨a, b, vs, us, rfl, rfl, h1, h3, by omega, fun q n => p _ _ _ (After.new s n) (.lst (SqL.of upd_same) (DpAll.mono (After.new s n).ff _ _ (h2.app h4)))⟩))
    · exact p.elim
  · rename_i xs ys
    split at p
    · rename_i hl
      have rx' := rx
      have ry' := ry
      obtain ⟨a, vs, rfl, h1, h2⟩ := rx.itemsT (by intro z; cases z) s
      obtain ⟨b, us, rfl, h3, h4⟩ := ry.itemsT (by intro z; cases z) s
      have e1 := h2.len
      have e2 := h4.len
      have dx : Dp K F (.ref a) (.tuple xs) := by
        rcases rx' with z | ⟨_, _, _, _, z, _⟩
        · exact z
        · cases z
      have dy : Dp K F (.ref b) (.tuple ys) := by
        rcases ry' with z | ⟨_, _, _, _, z, _⟩
        · exact z
        · cases z
      refine .inr (.inr (.inr ⟨a, b, vs, us, rfl, rfl, h1, h3, by omega, fun z => ?_, fun z1 z => ?_, fun z1 z2 q n => p _ _ _ (After.new s n) (.tup (SqT.of upd_same) (DpAll.mono (After.new s n).ff _ _ (h2.app h4)))⟩))
      · subst z
        have : xs = [] := by cases xs with | nil => rfl | cons _ _ => simp at e1
        subst this
        exact p _ _ _ (After.refl s) (by rw [List.nil_append]; exact dy)
      · subst z
        have : ys = [] := by cases ys with | nil => rfl | cons _ _ => simp at e2
        subst this
        exact p _ _ _ (After.refl s) (by rw [List.append_nil]; exact dx)
    · exact p.elim
  · exact p.elim
theorem de_add (ha : DE X W .q a fa) (hb : DE X W .q b fb) : DE X W .f (.BinOp a .Add b pos) (fun env => (fa env).bind fun x => (fb env).bind fun y => addD x y) := de_bin op_addA addD_op addD_ne ha hb
abbrev subD : D → D → R D := gI0 fun i j => i - j
theorem de_sub (ha : DE X W .h a fa) (hb : DE X W .h b fb) : DE X W m (.BinOp a .Sub b pos) (fun env => (fa env).bind fun x => (fb env).bind fun y => subD x y) := de_bin op_sub gI0_op (i2_ne fun _ _ _ z => nomatch z) ha hb
instance (i j : Int) : Decidable (CMulX i j) := by unfold CMulX; infer_instance
abbrev mulD : D → D → R D := gI CMulX fun i j => i * j
theorem de_mul (ha : DE X W .h a fa) (hb : DE X W .h b fb) : DE X W m (.BinOp a .Mult b pos) (fun env => (fa env).bind fun x => (fb env).bind fun y => mulD x y) := de_bin op_mulX gI_op gI_ne ha hb
/-- // by a divisor below 2 ^ 9000 -/
def CFd (_ j : Int) : Prop := j ≠ 0 ∧ j.natAbs.log2 < 9000
instance (i j : Int) : Decidable (CFd i j) := by unfold CFd; infer_instance
theorem op_fdivX : OpR X (binaryOp .FloorDiv) (rI CFd fun i j => .int (i.fdiv j)) := opI fun i j _ _ _ _ _ hc q => floordiv_int hc.1 q (.inl (PyProof.noPylong_of_log2 hc.2))
abbrev fdivD : D → D → R D := gI CFd fun i j => i.fdiv j
theorem de_fdiv (ha : DE X W .h a fa) (hb : DE X W .h b fb) : DE X W m (.BinOp a .FloorDiv b pos) (fun env => (fa env).bind fun x => (fb env).bind fun y => fdivD x y) := de_bin op_fdivX gI_op gI_ne ha hb
abbrev modD : D → D → R D := gI (fun _ j => j ≠ 0) fun i j => i.fmod j
theorem de_mod (ha : DE X W .h a fa) (hb : DE X W .h b fb) : DE X W m (.BinOp a .Mod b pos) (fun env => (fa env).bind fun x => (fb env).bind fun y => modD x y) := de_bin op_modN gI_op gI_ne ha hb
instance (i j : Int) : Decidable (CPow i j) := by unfold CPow; infer_instance
abbrev powD : D → D → R D := gI CPow fun i j => i ^ j.toNat
theorem de_pow (ha : DE X W .h a fa) (hb : DE X W .h b fb) : DE X W m (.BinOp a .Pow b pos) (fun env => (fa env).bind fun x => (fb env).bind fun y => powD x y) := de_bin op_pow gI_op gI_ne ha hb
abbrev shrD : D → D → R D := gI (fun _ j => 0 ≤ j) fun i j => i / 2 ^ j.toNat
theorem de_shr (ha : DE X W .h a fa) (hb : DE X W .h b fb) : DE X W m (.BinOp a .RShift b pos) (fun env => (fa env).bind fun x => (fb env).bind fun y => shrD x y) := de_bin op_shr gI_op gI_ne ha hb
abbrev andD : D → D → R D := gI0 fun i j => Builtin.bitAnd i j
theorem de_band (ha : DE X W .h a fa) (hb : DE X W .h b fb) : DE X W m (.BinOp a .BitAnd b pos) (fun env => (fa env).bind fun x => (fb env).bind fun y => andD x y) := de_bin op_and gI0_op (i2_ne fun _ _ _ z => nomatch z) ha hb
def negD : D → R D
  | .int i => .ok (.int (-i))
  | _ => .no
theorem de_neg (ha : DE X W .h a fa) : DE X W m (.UnaryOp .USub a pos) (fun env => (fa env).bind negD) := (pe_un un_neg ha).wk fun σ H Q ⟨B, F, env, r, p⟩ => tD.bind r p fun v H1 F1 d a1 r1 q1 p1 => by
  unfold negD at p1
  split at p1
  · exact ⟨_, q1.intI, p1 _ _ _ (After.refl r1.fh) (Rp.int _)⟩
  · exact p1.elim

/-! ### comparisons -/
def strDD (x y : D) (f : Bool → Bool) : R D := match x, y with
  | .str a, .str b => .ok (.bool (f (a == b)))
  | _, _ => .no
def eqD (x y : D) : R D := if SeqAt.shaped x = true ∧ SeqAt.shaped y = true then .ok (.bool (PyData.eqv x y)) else strDD x y fun b => b
def neD (x y : D) : R D := if SeqAt.shaped x = true ∧ SeqAt.shaped y = true then .ok (.bool (!PyData.eqv x y)) else strDD x y fun b => !b
theorem strDD_ne {f : Bool → Bool} : ∀ d e c, strDD d e f ≠ .er c := fun d e c => by unfold strDD; split <;> exact fun z => nomatch z
theorem eqD_ne : ∀ d e c, eqD d e ≠ .er c := fun d e c => by
  unfold eqD; split
  · exact fun z => nomatch z
  · exact strDD_ne d e c
theorem neD_ne : ∀ d e c, neD d e ≠ .er c := fun d e c => by
  unfold neD; split
  · exact fun z => nomatch z
  · exact strDD_ne d e c
theorem dec_str (a b : Str) : decide (V.str a = V.str b) = (a == b) := by
  by_cases h : a = b
  · subst h; simp
  · have h2 : ¬ (V.str a = V.str b) := fun z => h (by cases z; rfl)
    rw [decide_eq_false h2]; exact (beq_eq_false_iff_ne.mpr h).symm
theorem eqD_op {K : PySem.W.Frag} : Op2 K (fun x y H Q => rEqD K x y H Q ∨ rEq x y H Q) .h .h m eqD := fun ec W σ F H x y d e Q s rx ry he p => by
  unfold eqD at p
  split at p
  · rename_i hs
    exact .inl ⟨d, e, rx, ry, hs.1, hs.2, p _ _ _ (After.refl s) (Rp.bl _)⟩
  · unfold strDD at p
    split at p
    · obtain rfl := rx.strI
      obtain rfl := ry.strI
      exact .inr ⟨rfl, by rw [dec_str]; exact p _ _ _ (After.refl s) (Rp.bl _)⟩
    · exact p.elim
theorem neD_op {K : PySem.W.Frag} : Op2 K (fun x y H Q => rNeD K x y H Q ∨ rNe x y H Q) .h .h m neD := fun ec W σ F H x y d e Q s rx ry he p => by
  unfold neD at p
  split at p
  · rename_i hs
    exact .inl ⟨d, e, rx, ry, hs.1, hs.2, p _ _ _ (After.refl s) (Rp.bl _)⟩
  · unfold strDD at p
    split at p
    · obtain rfl := rx.strI
      obtain rfl := ry.strI
      exact .inr ⟨rfl, by rw [dec_str]; exact p _ _ _ (After.refl s) (Rp.bl _)⟩
    · exact p.elim
theorem room64 {A : Around} {k : Nat} (r : Room k A) : A.units + 65 < cLine := by have := r.un; omega
def inD (x y : D) : R D := match y with
  | .list ds => if SeqAt.shaped x = true ∧ SeqAt.shaped (.list ds) = true then .ok (.bool (ds.any fun z => PyData.eqv z x)) else .no
  | .tuple ds => if SeqAt.shaped x = true ∧ SeqAt.shaped (.tuple ds) = true then .ok (.bool (ds.any fun z => PyData.eqv z x)) else .no
  | .str z => match x with
    | .str w => .ok (.bool (!(Builtin.Str.occurrences z w 0 z.length 1).isEmpty))
    | _ => .no
  | _ => .no
def notInD (x y : D) : R D := (inD x y).bind fun z => match z with
  | .bool b => .ok (.bool (!b))
  | _ => .no
def rInT (K : PySem.W.Frag) : R2 := fun x y H Q => ∃ d ds, Dp K H x d ∧ Dp K H y (.tuple ds) ∧ SeqAt.shaped d = true ∧ SeqAt.shaped (.tuple ds) = true ∧ Q (.bl (ds.any fun z => PyData.eqv z d)) H
def rNotInT (K : PySem.W.Frag) : R2 := fun x y H Q => ∃ d ds, Dp K H x d ∧ Dp K H y (.tuple ds) ∧ SeqAt.shaped d = true ∧ SeqAt.shaped (.tuple ds) = true ∧ Q (.bl (!ds.any fun z => PyData.eqv z d)) H
theorem op_inT {X : Cx} (hu : X.A.units + 65 < cLine) : OpR X (compareOp .In) (rInT X.K) := fun pins s σ H x y v u Q I rx ry ⟨d, ds, hd, he, sd, se, q⟩ => by
  obtain ⟨_, r1⟩ := Dp.reads I d x v hd rx
  obtain ⟨_, r2⟩ := Dp.reads I (.tuple ds) y u he ry
  exact SeqAt.in_tuple_reads r2 r1 (SeqAt.canLay_of_shaped se) (SeqAt.canLay_of_shaped sd) (room_in_shaped sd hu) ⟨.bl _, H, I, rfl, q⟩
theorem op_notInT {X : Cx} (hu : X.A.units + 65 < cLine) : OpR X (compareOp .NotIn) (rNotInT X.K) := fun pins s σ H x y v u Q I rx ry ⟨d, ds, hd, he, sd, se, q⟩ => by
  obtain ⟨_, r1⟩ := Dp.reads I d x v hd rx
  obtain ⟨_, r2⟩ := Dp.reads I (.tuple ds) y u he ry
  exact SeqAt.notIn_tuple_reads r2 r1 (SeqAt.canLay_of_shaped se) (SeqAt.canLay_of_shaped sd) (room_in_shaped sd hu) ⟨.bl _, H, I, rfl, q⟩
def rInA (K : PySem.W.Frag) : R2 := fun x y H Q => (rInD K x y H Q ∨ rInT K x y H Q) ∨ ∃ i j, x = .str i ∧ y = .str j ∧ Q (.bl (!(Builtin.Str.occurrences j i 0 j.length 1).isEmpty)) H
def rNotInA (K : PySem.W.Frag) : R2 := fun x y H Q => (rNotInD K x y H Q ∨ rNotInT K x y H Q) ∨ ∃ i j, x = .str i ∧ y = .str j ∧ Q (.bl (!(!(Builtin.Str.occurrences j i 0 j.length 1).isEmpty))) H
theorem inD_ne : ∀ d e c, inD d e ≠ .er c := fun d e c => by
  unfold inD
  repeat' split
  all_goals exact fun z => nomatch z
theorem notInD_ne : ∀ d e c, notInD d e ≠ .er c := fun d e c => by
  unfold notInD inD
  repeat' split
  all_goals exact fun z => nomatch z
theorem inD_op {K : PySem.W.Frag} : Op2 K (rInA K) .h .h m inD := fun ec W σ F H x y d e Q s rx ry he p => by
  unfold inD at p
  split at p
  · split at p
    · rename_i hs
      exact .inl (.inl ⟨d, _, rx, ry, hs.1, hs.2, p _ _ _ (After.refl s) (Rp.bl _)⟩)
    · exact p.elim
  · split at p
    · rename_i hs
      exact .inl (.inr ⟨d, _, rx, ry, hs.1, hs.2, p _ _ _ (After.refl s) (Rp.bl _)⟩)
    · exact p.elim
  · split at p
    · exact .inr ⟨_, _, rx.strI, ry.strI, p _ _ _ (After.refl s) (Rp.bl _)⟩
    · exact p.elim
  · exact p.elim
theorem notInD_op {K : PySem.W.Frag} : Op2 K (rNotInA K) .h .h m notInD := fun ec W σ F H x y d e Q s rx ry he p => by
  unfold notInD inD at p
  split at p
  · split at p
    · rename_i hs
      exact .inl (.inl ⟨d, _, rx, ry, hs.1, hs.2, p _ _ _ (After.refl s) (Rp.bl _)⟩)
    · exact p.elim
  · split at p
    · rename_i hs
      exact .inl (.inr ⟨d, _, rx, ry, hs.1, hs.2, p _ _ _ (After.refl s) (Rp.bl _)⟩)
    · exact p.elim
  · split at p
    · exact .inr ⟨_, _, rx.strI, ry.strI, p _ _ _ (After.refl s) (Rp.bl _)⟩
    · exact p.elim
  · exact p.elim
def isNo : D → Bool
  | .none => true
  | _ => false
def isD (x y : D) : R D := match y with
  | .none => .ok (.bool (isNo x))
  | .bool b => match x with
    | .bool a => .ok (.bool (decide (a = b)))
    | _ => .no
  | _ => .no
def isNotD (x y : D) : R D := match y with
  | .none => .ok (.bool (!isNo x))
  | .bool b => match x with
    | .bool a => .ok (.bool (!decide (a = b)))
    | _ => .no
  | _ => .no
theorem isD_ne : ∀ d e c, isD d e ≠ .er c := fun d e c h => by
  unfold isD at h
  repeat' split at h
  all_goals cases h
theorem isNotD_ne : ∀ d e c, isNotD d e ≠ .er c := fun d e c h => by
  unfold isNotD at h
  repeat' split at h
  all_goals cases h
theorem Dp.isNo {K : PySem.W.Frag} {H : Hp} {v : V} {d : D} (h : Dp K H v d) : decide (v = .non) = DL.isNo d := by
  cases h <;> first | exact decide_eq_true rfl | exact decide_eq_false (fun z => nomatch z)
theorem isD_op {K : PySem.W.Frag} : Op2 K (fun x y H Q => (y = .non ∧ Q (.bl (decide (x = .non))) H) ∨ ∃ a b : Bool, x = .bl a ∧ y = .bl b ∧ Q (.bl (decide (a = b))) H) .h .h m isD := fun ec W σ F H x y d e Q s rx ry he p => by
  unfold isD at p
  split at p
  · refine .inl ⟨ry.nonI, ?_⟩
    rw [Dp.isNo (show Dp K H x d from rx)]
    exact p _ _ _ (After.refl s) (Rp.bl _)
  · split at p
    · exact .inr ⟨_, _, rx.blI, ry.blI, p _ _ _ (After.refl s) (Rp.bl _)⟩
    · exact p.elim
  · exact p.elim
theorem isNotD_op {K : PySem.W.Frag} : Op2 K (fun x y H Q => (y = .non ∧ Q (.bl (!decide (x = .non))) H) ∨ ∃ a b : Bool, x = .bl a ∧ y = .bl b ∧ Q (.bl (!decide (a = b))) H) .h .h m isNotD := fun ec W σ F H x y d e Q s rx ry he p => by
  unfold isNotD at p
  split at p
  · refine .inl ⟨ry.nonI, ?_⟩
    rw [Dp.isNo (show Dp K H x d from rx)]
    exact p _ _ _ (After.refl s) (Rp.bl _)
  · split at p
    · exact .inr ⟨_, _, rx.blI, ry.blI, p _ _ _ (After.refl s) (Rp.bl _)⟩
    · exact p.elim
  · exact p.elim
abbrev ltD : D → D → R D := gB0 fun i j => decide (i < j)
abbrev leD : D → D → R D := gB0 fun i j => decide (i ≤ j)
abbrev gtD : D → D → R D := gB0 fun i j => decide (j < i)
abbrev geD : D → D → R D := gB0 fun i j => decide (j ≤ i)
theorem gB0_ne {g : Int → Int → Bool} : ∀ d e c, gB0 g d e ≠ .er c := i2_ne fun _ _ _ z => nomatch z
def tob : D → R Bool
  | .bool k => .ok k
  | _ => .no
/-- a comparison's rule: as a value, as a test -/
structure Cm (X : Cx) (op : CmpOp) (g : D → D → R D) : Prop where
  ne : ∀ d e c, g d e ≠ .er c
  rule : ∃ r : R2, OpR X (compareOp op) r ∧ ∀ m, Op2 X.K r .h .h m g
theorem cm_lt : Cm X .Lt ltD := ⟨gB0_ne, _, op_lt, fun _ => gB0_op⟩
theorem cm_le : Cm X .LtE leD := ⟨gB0_ne, _, op_le, fun _ => gB0_op⟩
theorem cm_gt : Cm X .Gt gtD := ⟨gB0_ne, _, op_gt, fun _ => gB0_op⟩
theorem cm_ge : Cm X .GtE geD := ⟨gB0_ne, _, op_ge, fun _ => gB0_op⟩
theorem cm_eq (hu : X.A.units + 65 < cLine) : Cm X .Eq eqD := ⟨eqD_ne, _, (op_eqD (by omega)).or op_eq, fun _ => eqD_op⟩
theorem cm_ne (hu : X.A.units + 65 < cLine) : Cm X .NotEq neD := ⟨neD_ne, _, (op_neD (by omega)).or op_ne, fun _ => neD_op⟩
theorem cm_in (hu : X.A.units + 65 < cLine) : Cm X .In inD := ⟨inD_ne, _, ((op_inD hu).or (op_inT hu)).or op_in_str, fun _ => inD_op⟩
theorem cm_nin (hu : X.A.units + 65 < cLine) : Cm X .NotIn notInD := ⟨notInD_ne, _, ((op_notInD hu).or (op_notInT hu)).or op_notIn_str, fun _ => notInD_op⟩
theorem cm_is : Cm X .Is isD := ⟨isD_ne, _, op_isN.or op_isBl, fun _ => isD_op⟩
theorem cm_isn : Cm X .IsNot isNotD := ⟨isNotD_ne, _, op_notN.or op_notBl, fun _ => isNotD_op⟩
def b2 (fa fb : En → R D) (g : D → D → R D) : En → R D := fun env => (fa env).bind fun x => (fb env).bind fun y => g x y
def t2 (fa fb : En → R D) (g : D → D → R D) : En → R Bool := fun env => (fa env).bind fun x => (fb env).bind fun y => (g x y).bind tob
theorem de_cm {op : CmpOp} {g : D → D → R D} (c : Cm X op g) (ha : DE X W .h a fa) (hb : DE X W .h b fb) (hm : behindInMarks op b = false := by first | exact nomark _ | rfl) : DE X W m (.Compare a [op] [b] pos) (b2 fa fb g) := by
  obtain ⟨r, h1, h2⟩ := c.rule
  exact de_cmp h1 (h2 m) c.ne ha hb hm
theorem dt_cm {op : CmpOp} {g : D → D → R D} (c : Cm X op g) (ha : DE X W .h a fa) (hb : DE X W .h b fb) (hm : behindInMarks op b = false := by first | exact nomark _ | rfl) : DT X W (.Compare a [op] [b] pos) (t2 fa fb g) := by
  obtain ⟨r, h1, h2⟩ := c.rule
  exact dt_cmp h1 (h2 .f) c.ne ha hb hm
/-- a chain -/
def ch3 (fa fb fc : En → R D) (g h : D → D → R D) : En → R D := fun env => (fa env).bind fun x => (fb env).bind fun y => (g x y).bind fun z => match z with
  | .bool true => (fc env).bind fun w => h y w
  | .bool false => .ok (.bool false)
  | _ => .no
end
end DL
namespace DL
open PySem PySem.Spec PyProof.Rows L2
variable [Tabs]
section
variable {X : Cx} {W : WX} {m m1 m2 : Md} {pos : Pos} {j : Nat} {a b c : Expr} {fa fb fc : En → R D}

/-! ### tests -/
def DW (X : Cx) (W : WX) (e : Expr) (f : En → R Bool) : Prop := PW X e (tT X.K (ecOf X.mg) W f)
theorem _root_.L2.PW.wk {X : Cx} {e : Expr} {t t' : TT} (h : PW X e t) (k : ∀ σ H Q, t' σ H Q → t σ H Q) : PW X e t' := ⟨fun wh pins s σ H Q I q => h.run wh pins s σ H Q I (k _ _ _ q)⟩
theorem dt_w {e : Expr} {f : En → R Bool} (h : DW X W e f) : DT X W e f := PW.pt h
def trD : D → R Bool
  | .none => .ok false
  | .bool b => .ok b
  | .int i => .ok (i != 0)
  | .str x => if x.length ≤ sizeLine then .ok ((x.length : Int) != 0) else .no
  | .list ds => .ok (!ds.isEmpty)
  | .tuple ds => .ok (!ds.isEmpty)
  | .dict _ => .no
theorem trD_ok {K : PySem.W.Frag} {H : Hp} {v : V} {d : D} {k : Bool} (h : Dp K H v d) (e : trD d = .ok k) : TruV K v H k := by
  cases h with
  | non => cases e; exact rfl
  | bl b => cases e; exact rfl
  | int i => cases e; exact rfl
  | str x =>
    simp only [trD] at e
    split at e
    · rename_i hl; cases e; exact ⟨hl, rfl⟩
    · cases e
  | @lst a xs ds hs ha =>
    cases e
    have : xs.isEmpty = ds.isEmpty := by cases ha <;> rfl
    exact .inl ⟨xs, hs, by rw [this]⟩
  | @tup a xs ds hs ha =>
    cases e
    have : xs.isEmpty = ds.isEmpty := by cases ha <;> rfl
    exact .inr (.inl ⟨xs, hs, by rw [this]⟩)
theorem trD_ne : ∀ d c, trD d ≠ .er c := fun d c => by
  unfold trD
  repeat' split
  all_goals exact fun z => nomatch z
/-- a value as a test -/
theorem dt_val (ha : DE X W .h a fa) (he : ∀ whole, isTrue a X.env whole = (do let v ← whole; standAt a.pos; holding [v] (truthy v)) := by intro _; rfl) : DT X W a (fun env => (fa env).bind trD) :=
  (pt_truth ha he).wk fun σ H Q ⟨B, F, env, r, p⟩ => tD.bindT r p fun v H1 F1 d a1 r1 q1 p1 => by
    cases e : trD d with
    | ok k => rw [e] at p1; exact ⟨k, trD_ok q1 e, p1 _ _ (After.refl r1.fh)⟩
    | er c => exact absurd e (trD_ne d c)
    | no => rw [e] at p1; exact p1.elim
def andT (f g : En → R Bool) : En → R Bool := fun env => (f env).bind fun k => match k with
  | true => g env
  | false => .ok false
def orT (f g : En → R Bool) : En → R Bool := fun env => (f env).bind fun k => match k with
  | true => .ok true
  | false => g env
def notT (f : En → R Bool) : En → R Bool := fun env => (f env).bind fun k => .ok (!k)
variable {ta tb : En → R Bool} {rest : List Expr}
theorem dw_and1 (ha : DT X W a ta) : DW X W (.BoolOp .And [a] pos) ta := pw_and1 ha
theorem dw_or1 (ha : DT X W a ta) : DW X W (.BoolOp .Or [a] pos) ta := pw_or1 ha
theorem dw_and (ha : DT X W a ta) (hb : DW X W (.BoolOp .And (b :: rest) pos) tb) : DW X W (.BoolOp .And (a :: b :: rest) pos) (andT ta tb) :=
  (pw_and ha hb).wk fun σ H Q ⟨B, F, env, r, p⟩ => tT.bindT r p fun k H1 F1 a1 r1 p1 => by
    cases k with
    | true => rw [if_pos rfl]; exact ⟨B, F1, env, r1, p1⟩
    | false => rw [if_neg Bool.false_ne_true]; exact p1 _ _ (After.refl r1.fh)
theorem dw_or (ha : DT X W a ta) (hb : DW X W (.BoolOp .Or (b :: rest) pos) tb) : DW X W (.BoolOp .Or (a :: b :: rest) pos) (orT ta tb) :=
  (pw_or ha hb).wk fun σ H Q ⟨B, F, env, r, p⟩ => tT.bindT r p fun k H1 F1 a1 r1 p1 => by
    cases k with
    | true => rw [if_pos rfl]; exact p1 _ _ (After.refl r1.fh)
    | false => rw [if_neg Bool.false_ne_true]; exact ⟨B, F1, env, r1, p1⟩
theorem dt_not (ha : DT X W a ta) : DT X W (.UnaryOp .Not a pos) (notT ta) :=
  (pt_not ha).wk fun σ H Q ⟨B, F, env, r, p⟩ => tT.bindT r p fun k H1 F1 a1 r1 p1 => p1 _ _ (After.refl r1.fh)
def ifD (t : En → R Bool) (f g : En → R D) : En → R D := fun env => (t env).bind fun k => match k with
  | true => f env
  | false => g env
theorem de_if (hc : DT X W c ta) (ha : DE X W m a fa) (hb : DE X W m b fb) : DE X W m (.IfExp c a b pos) (ifD ta fa fb) :=
  (pe_ifExp hc ha hb).wk fun σ H Q ⟨B, F, env, r, p⟩ => tT.bind r p fun k H1 F1 a1 r1 p1 => by
    cases k with
    | true => rw [if_pos rfl]; exact ⟨B, F1, env, r1, p1⟩
    | false => rw [if_neg Bool.false_ne_true]; exact ⟨B, F1, env, r1, p1⟩
/-! and, or, not as values, of bools -/
def andV (f g : En → R D) : En → R D := fun env => (f env).bind fun k => match k with
  | .bool true => g env
  | .bool false => .ok (.bool false)
  | _ => .no
def orV (f g : En → R D) : En → R D := fun env => (f env).bind fun k => match k with
  | .bool true => .ok (.bool true)
  | .bool false => g env
  | _ => .no
def notV (f : En → R D) : En → R D := fun env => (f env).bind fun k => match k with
  | .bool k => .ok (.bool (!k))
  | _ => .no
theorem de_one {op : BoolOp} (h : DE X W m a fa) : DE X W m (.BoolOp op [a] pos) fa := pe_one h
theorem de_and (ha : DE X W .h a fa) (hb : DE X W m (.BoolOp .And (b :: rest) pos) fb) : DE X W m (.BoolOp .And (a :: b :: rest) pos) (andV fa fb) :=
  (pe_and ha hb).wk fun σ H Q ⟨B, F, env, r, p⟩ => tD.bind r p fun v H1 F1 d a1 r1 q1 p1 => by
    split at p1
    · exact ⟨true, q1.blI, by rw [if_pos rfl]; exact ⟨B, F1, env, r1, p1⟩⟩
    · exact ⟨false, q1.blI, by rw [if_neg Bool.false_ne_true]; exact p1 _ _ _ (After.refl r1.fh) (Rp.bl _)⟩
    · exact p1.elim
theorem de_or (ha : DE X W .h a fa) (hb : DE X W m (.BoolOp .Or (b :: rest) pos) fb) : DE X W m (.BoolOp .Or (a :: b :: rest) pos) (orV fa fb) :=
  (pe_or ha hb).wk fun σ H Q ⟨B, F, env, r, p⟩ => tD.bind r p fun v H1 F1 d a1 r1 q1 p1 => by
    split at p1
    · exact ⟨true, q1.blI, by rw [if_pos rfl]; exact p1 _ _ _ (After.refl r1.fh) (Rp.bl _)⟩
    · exact ⟨false, q1.blI, by rw [if_neg Bool.false_ne_true]; exact ⟨B, F1, env, r1, p1⟩⟩
    · exact p1.elim
theorem de_not (ha : DE X W .h a fa) : DE X W m (.UnaryOp .Not a pos) (notV fa) :=
  (pe_not ha).wk fun σ H Q ⟨B, F, env, r, p⟩ => tD.bind r p fun v H1 F1 d a1 r1 q1 p1 => by
    split at p1
    · exact ⟨_, q1.blI, p1 _ _ _ (After.refl r1.fh) (Rp.bl _)⟩
    · exact p1.elim

/-! ### argument lists -/
def nilA : En → R (List D) := fun _ => .ok []
def consA (f : En → R D) (g : En → R (List D)) : En → R (List D) := fun env => (f env).bind fun d => (g env).bind fun ds => .ok (d :: ds)
theorem da_nil : DA X W [] [] nilA := pa_nil.wk fun σ H Q ⟨B, F, env, r, p⟩ => p _ _ _ (After.refl r.fh) .nil
theorem da_cons {ms : List Md} {es : List Expr} {g : En → R (List D)} (ha : DE X W m a fa) (hb : DA X W ms es g) (hs : starEach (a :: es) X.env = (false, eval a X.env) :: starEach es X.env := by rfl) : DA X W (m :: ms) (a :: es) (consA fa g) :=
  (pa_cons ha hb hs).wk fun σ H Q ⟨B, F, env, r, p⟩ => tD.bindA r p fun v H1 F1 d a1 r1 q1 p1 => by
    refine ⟨B, F1, env, r1, ?_⟩
    cases e : g env with
    | ok ds => rw [e] at p1; exact fun vs H2 F2 a2 q2 => p1 _ _ _ a2 (.cons (q1.after a2) q2)
    | er c => rw [e] at p1; exact p1
    | no => rw [e] at p1; exact p1
def allf : List Md → Bool
  | [] => true
  | .f :: ms => allf ms
  | _ :: _ => false
theorem allf_of : ∀ {ms : List Md}, allf ms = true → ∀ m ∈ ms, m = .f
  | [], _, m, h => by cases h
  | .f :: ms, h, m, hm => (List.mem_cons.mp hm).elim id fun z => allf_of (ms := ms) h m z
  | .q :: _, h, _, _ => by cases h
  | .h :: _, h, _, _ => by cases h
theorem RpL.fs {K : PySem.W.Frag} {F H : Hp} {ms : List Md} {vs : List V} {ds : List D} (r : RpL K F H ms vs ds) (h : ∀ m ∈ ms, m = .f) : DpAll K F vs ds := by
  induction r with
  | nil => exact .nil
  | @cons m v d ms vs ds x _ ih =>
    have e := h m List.mem_cons_self
    subst e
    exact .cons x (ih fun m' hm => h m' (List.mem_cons_of_mem _ hm))

/-! ### displays -/
def tupR (f : En → R (List D)) : En → R D := fun env => (f env).bind fun ds => if ds.length ≤ 1000 then .ok (.tuple ds) else .no
theorem le_line {n : Nat} (h : n ≤ 1000) : n ≤ sizeLine := Nat.le_trans h (by rw [sizeLine_eq]; decide)
theorem de_tup {es : List Expr} {x1 : Nat} {ms : List Md} {f : En → R (List D)} (h : DA X W ms es f) (hm : allf ms = true := by rfl) : DE X W .f (.Tuple es x1 pos) (tupR f) :=
  (pe_tup h).wk fun σ H Q ⟨B, F, env, r, p⟩ => tA.bind r p fun vs H1 F1 ds a1 r1 q1 p1 => by
    split at p1
    · rename_i hl
      have q2 := q1.fs (allf_of hm)
      exact ⟨by rw [q2.len]; exact le_line hl, fun q n => p1 _ _ _ (After.new r1.fh n) (.tup (SqT.of upd_same) (DpAll.mono (After.new r1.fh n).ff _ _ q2))⟩
    · exact p1.elim
def lstR (f : En → R (List D)) : En → R S := fun env => (f env).bind fun ds => if ds.length ≤ 1000 then .ok (.ow (ds.map .fr)) else .no
theorem do_lst {es : List Expr} {ms : List Md} {f : En → R (List D)} (h : DA X W ms es f) (hm : allf ms = true := by rfl) : DO X W (.List es pos) (lstR f) :=
  (pe_lst h).wk fun σ H Q ⟨B, F, env, r, p⟩ => tA.bindO r p fun vs H1 F1 ds a1 r1 q1 p1 => by
    split at p1
    · rename_i hl
      have q2 := q1.fs (allf_of hm)
      exact ⟨by rw [q2.len]; exact le_line hl, fun q n => p1 _ _ _ [q] (After.newO r1.fh n) (.ow (as := []) (r1.fh.free n) upd_same (OwAll.ofDp q2)) (by simp) (fun x hx => by
        rcases List.mem_cons.mp hx with e | e
        · subst e; exact n
        · cases e)⟩
    · exact p1.elim
/-- what is fresh may be shared from now on -/
theorem frz {K : PySem.W.Frag} {F H F' H' : Hp} {v : V} {s : S} {as : List Addr} (x : After F H F' H') (o : Ow K F' H' v s as) (fr : ∀ a ∈ as, H a = none) : ∃ F2, After F H F2 H' ∧ Dp K F2 v s.toD := by
  have hn : ∀ a ∈ as, F' a = none := fun a z => (o.at _ _ _ a z).1
  refine ⟨fun a => if a ∈ as then H' a else F' a, ⟨x.ff.trans (.mixF hn), .mixH x.fh, x.hh, fun a u e n => ?_⟩, Ow.dp (F := F') (H := H') (.mixF hn) _ _ _ o fun a ha => if_pos ha⟩
  split at e
  · rename_i hm; exact fr a hm
  · exact x.nw a u e n
def unO (f : En → R S) : En → R D := fun env => (f env).bind fun s => .ok s.toD
theorem tO.ofD {K : PySem.W.Frag} {ec : Str → Value} {W : WX} {f : En → R S} {σ : L2.St} {H : Hp} {Q : VK} (h : tD K ec W .f (unO f) σ H Q) : tO K ec W f σ H Q := by
  obtain ⟨B, F, env, r, p⟩ := h
  refine ⟨B, F, env, r, ?_⟩
  unfold unO at p
  cases e : f env with
  | ok s =>
    rw [e] at p
    intro v H' F' as x o n fr
    obtain ⟨F2, y, z⟩ := frz x o fr
    exact p v H' F2 y z
  | er c => rw [e] at p; exact p
  | no => rw [e] at p; exact p
theorem de_o {f : En → R S} (h : DO X W a f) : DE X W .f a (unO f) := h.wk fun σ H Q q => tO.ofD q
def frR (f : En → R D) : En → R S := fun env => (f env).bind fun d => .ok (.fr d)
theorem do_f (h : DE X W .f a fa) : DO X W a (frR fa) := h.wk fun σ H Q ⟨B, F, env, r, p⟩ => ⟨B, F, env, r, by
  unfold frR at p
  cases e : fa env with
  | ok d =>
    rw [e] at p
    exact fun v H' F' x q => p v H' F' [] x (.fr q) .nil fun _ h => by cases h
  | er c => rw [e] at p; exact p
  | no => rw [e] at p; exact p⟩

/-! ### items -/
def ixD (x y : D) : R D := match y with
  | .int i => match x with
    | .list ds => match atI ds i with
      | some d => .ok d
      | none => .no
    | .tuple ds => match atI ds i with
      | some d => .ok d
      | none => .no
    | _ => .no
  | _ => .no
theorem atI_get {α β : Type} {xs : List α} {ys : List β} {i : Int} {y : β} (hl : xs.length = ys.length) (h : atI ys i = some y) : ∃ k, ixN ys.length i = some k ∧ ys[k]? = some y ∧ atI xs i = xs[k]? := by
  unfold atI at h ⊢
  cases e : ixN ys.length i with
  | none => rw [e] at h; cases h
  | some k => rw [e] at h; rw [hl, e]; exact ⟨k, rfl, h, rfl⟩
theorem ixD_ne : ∀ d e c, ixD d e ≠ .er c := fun d e c => by
  unfold ixD
  repeat' split
  all_goals exact fun z => nomatch z
theorem ixD_op {K : PySem.W.Frag} : Op2 K (rIx K) .q .h .f ixD := fun ec W σ F H x y d e Q s rx ry he p => by
  cases e with
  | int i =>
    cases d with
    | list ds =>
      simp only [ixD] at p
      cases hz : atI ds i with
      | none => rw [hz] at p; exact p.elim
      | some z =>
        rw [hz] at p
        obtain ⟨a, vs, rfl, h1, h2⟩ := rx.items (by intro z; cases z) s
        obtain ⟨k, h3, h4, h5⟩ := atI_get h2.len hz
        obtain ⟨v, h6, h7⟩ := h2.getD h4
        exact .inl ⟨a, vs, i, v, rfl, ry.intI, h1, h5.trans h6, p _ _ _ (After.refl s) h7⟩
    | tuple ds =>
      simp only [ixD] at p
      cases hz : atI ds i with
      | none => rw [hz] at p; exact p.elim
      | some z =>
        rw [hz] at p
        obtain ⟨a, vs, rfl, h1, h2⟩ := rx.itemsT (by intro z; cases z) s
        obtain ⟨k, h3, h4, h5⟩ := atI_get h2.len hz
        obtain ⟨v, h6, h7⟩ := h2.getD h4
        exact .inr (.inl ⟨a, vs, i, v, rfl, ry.intI, h1, h5.trans h6, p _ _ _ (After.refl s) h7⟩)
    | _ => exact p.elim
  | _ => exact p.elim
theorem ixD_oph {K : PySem.W.Frag} : Op2 K (rIx K) .h .h .h ixD := fun ec W σ F H x y d e Q s rx ry he p => by
  cases e with
  | int i =>
    cases d with
    | list ds =>
      simp only [ixD] at p
      cases hz : atI ds i with
      | none => rw [hz] at p; exact p.elim
      | some z =>
        rw [hz] at p
        cases (show Dp K H x (.list ds) from rx) with
        | lst h1 h2 =>
          obtain ⟨k, h3, h4, h5⟩ := atI_get h2.len hz
          obtain ⟨v, h6, h7⟩ := h2.getD h4
          exact .inl ⟨_, _, i, v, rfl, ry.intI, h1, h5.trans h6, p _ _ _ (After.refl s) h7⟩
    | tuple ds =>
      simp only [ixD] at p
      cases hz : atI ds i with
      | none => rw [hz] at p; exact p.elim
      | some z =>
        rw [hz] at p
        cases (show Dp K H x (.tuple ds) from rx) with
        | tup h1 h2 =>
          obtain ⟨k, h3, h4, h5⟩ := atI_get h2.len hz
          obtain ⟨v, h6, h7⟩ := h2.getD h4
          exact .inr (.inl ⟨_, _, i, v, rfl, ry.intI, h1, h5.trans h6, p _ _ _ (After.refl s) h7⟩)
    | _ => exact p.elim
  | _ => exact p.elim
theorem de_ix (ha : DE X W .q a fa) (hb : DE X W .h b fb) (hs : PlainIx b := by intro _ _; rfl) : DE X W .f (.Subscript a b pos) (b2 fa fb ixD) :=
  (pe_ix ix_seq ha hb hs).wk fun σ H Q ⟨B, F, env, r, p⟩ => tD.bind r p fun v H1 F1 d a1 r1 q1 p1 => tD.bind r1 p1 fun u H2 F2 e a2 r2 q2 p2 => ixD_op _ _ _ F2 H2 v u d e Q r2.fh (q1.after a2) q2 (ixD_ne d e) p2
theorem de_ixh (ha : DE X W .h a fa) (hb : DE X W .h b fb) (hs : PlainIx b := by intro _ _; rfl) : DE X W .h (.Subscript a b pos) (b2 fa fb ixD) :=
  (pe_ix ix_seq ha hb hs).wk fun σ H Q ⟨B, F, env, r, p⟩ => tD.bind r p fun v H1 F1 d a1 r1 q1 p1 => tD.bind r1 p1 fun u H2 F2 e a2 r2 q2 p2 => ixD_oph _ _ _ F2 H2 v u d e Q r2.fh (q1.after a2) q2 (ixD_ne d e) p2
/-- a scalar, however it is known -/
def scR (f : En → R D) : En → R D := fun env => (f env).bind fun d => if sca d = true then .ok d else .no
theorem de_sc (h : DE X W m1 a fa) : DE X W m a (scR fa) := h.wk fun σ H Q ⟨B, F, env, r, p⟩ => ⟨B, F, env, r, by
  unfold scR at p
  cases e : fa env with
  | ok d =>
    rw [e] at p
    show ∀ v H' F', After F H F' H' → _ → _
    intro v H' F' x q
    replace p : PoE X.K (ecOf X.mg) W m F H σ Q (if sca d = true then .ok d else .no) := p
    split at p
    · rename_i hs; exact p v H' F' x (Rp.sc hs q)
    · exact p.elim
  | er c => rw [e] at p; exact p
  | no => rw [e] at p; exact p⟩

/-! ### slices -/
def DP (X : Cx) (W : WX) (e : Option Expr) (f : En → R (Option Int)) : Prop := match e with
  | none => f = fun _ => .ok none
  | some e => ∃ g, DE X W .h e g ∧ f = fun env => (g env).bind fun d => match d with | .int i => .ok (some i) | _ => .no
theorem dp_none : DP X W none (fun _ => .ok none) := rfl
theorem dp_some (h : DE X W .h a fa) : DP X W (some a) (fun env => (fa env).bind fun d => match d with | .int i => .ok (some i) | _ => .no) := ⟨_, h, rfl⟩
end
end DL
namespace DL
open PySem PySem.Spec PyProof.Rows L2
variable [Tabs]
/-- what stands around: the context of a body that may raise, its wish W -/
structure Cxt (X : Cx) (W : WX) (k : Nat) : Prop where
  calm : X.calm = true
  nd : X.N.Nodup
  tk : Takes X W
  rm : Room k X.A
  gd : X.A.guards = some []
  po : PassesOwn (model X.prog X.w) X.A X.env X.xe
section
variable {X : Cx} {W : WX} {m m1 m2 : Md} {pos p2 : Pos} {j : Nat} {a b c : Expr} {fa fb fc : En → R D}

/-! ### slices -/
def cutD {A : Type} (xs : List A) (lo hi : Option Int) : List A := (xs.drop (HT.sIx xs.length 0 lo)).take (HT.sIx xs.length xs.length hi - HT.sIx xs.length 0 lo)
theorem cutV_dp {K : PySem.W.Frag} {F : Hp} {vs : List V} {ds : List D} {lo hi : Option Int} (h : DpAll K F vs ds) : DpAll K F (cutV vs lo hi) (cutD ds lo hi) := by
  unfold cutV cutD
  rw [h.len]
  exact (h.drop _).take _
/-- the whole of it, of ints -/
def opI : D → R (Option Int)
  | .int i => .ok (some i)
  | _ => .no
abbrev FO := En → R (Option Int)
def noneO : FO := fun _ => .ok none
def someO (f : En → R D) : FO := fun env => (f env).bind opI
/-- a part of a slice -/
inductive DPt (X : Cx) (W : WX) : Option Expr → FO → Prop
  | none : DPt X W none noneO
  | some {e : Expr} {f : En → R D} : DE X W .h e f → DPt X W (some e) (someO f)
def slcD (x : D) (lo hi : Option Int) : R S := match x with
  | .list ds => .ok (.ow ((cutD ds lo hi).map .fr))
  | _ => .no
def slcT (x : D) (lo hi : Option Int) : R D := match x with
  | .tuple ds => .ok (.tuple (cutD ds lo hi))
  | .str z => if z.length ≤ sizeLine then .ok (.str (cutS z lo hi)) else .no
  | .list ds => .ok (.list (cutD ds lo hi))
  | _ => .no
theorem part_run {K : PySem.W.Frag} {ec : Str → Value} {B F H : Hp} {env : En} {σ : L2.St} {lo : Option Expr} {fl : FO} (hX : X.K = K) (he : ecOf X.mg = ec) (hl : DPt X W lo fl) : ∃ tl, PO X lo tl ∧ ∀ {α : Type} {B F H : Hp} {env : En} {σ : L2.St} {k : Option Int → R S} {Q : VK} {Q' : Option Int → Hp → Prop},
    Rel K B F H env σ → PoO K ec W F H σ Q ((fl env).bind k) → (∀ o H' F', After F H F' H' → Rel K B F' H' env σ → PoO K ec W F' H' σ Q (k o) → Q' o H') → tl σ H Q' := by
  cases hl with
  | none => exact ⟨_, po_none, fun r p h => h none _ _ (After.refl r.fh) r p⟩
  | @some e f hf =>
    refine ⟨_, po_some hf, fun {α B F H env σ k Q Q'} r p h => ?_⟩
    have p' : PoO K ec W F H σ Q ((f env).bind fun d => (opI d).bind k) := by
      unfold someO at p
      cases z : f env with
      | ok d => rw [z] at p; exact p
      | er c => rw [z] at p; exact p
      | no => rw [z] at p; exact p
    subst hX he
    refine tD.bindO r p' fun v H1 F1 d a1 r1 q1 p1 => ?_
    cases d with
    | int i => exact ⟨i, q1.intI, h (some i) _ _ a1 r1 p1⟩
    | _ => exact p1.elim
def slR (fa : En → R D) (fl fh : FO) (g : D → Option Int → Option Int → R S) : En → R S := fun env => (fa env).bind fun x => (fl env).bind fun l => (fh env).bind fun h => g x l h
theorem do_slice {lo hi : Option Expr} {fl fh : FO} (ha : DE X W .q a fa) (hl : DPt X W lo fl) (hh : DPt X W hi fh) : DO X W (.Subscript a (.Slice lo hi none p2) pos) (slR fa fl fh slcD) := by
  obtain ⟨tl, ol, rl⟩ := part_run (B := fun _ => none) (F := fun _ => none) (H := fun _ => none) (env := []) (σ := []) rfl rfl hl
  obtain ⟨th, oh, rh⟩ := part_run (B := fun _ => none) (F := fun _ => none) (H := fun _ => none) (env := []) (σ := []) rfl rfl hh
  refine (pe_slice sl_list ha ol oh).wk fun σ H Q ⟨B, F, env, r, p⟩ => ?_
  refine tD.bindO r p fun v H1 F1 d a1 r1 q1 p1 => ?_
  refine rl (α := Unit) r1 p1 fun l H2 F2 a2 r2 p2 => ?_
  refine rh (α := Unit) r2 p2 fun h H3 F3 a3 r3 p3 => ?_
  cases d with
  | list ds =>
    obtain ⟨a, vs, rfl, h1, h2⟩ := ((q1.after a2).after a3).items (by intro z; cases z) r3.fh
    exact ⟨a, vs, rfl, h1, fun q n => p3 _ _ _ [q] (After.newO r3.fh n) (.ow (as := []) (r3.fh.free n) upd_same (OwAll.ofDp (cutV_dp h2))) (by simp) (fun x hx => by
      rcases List.mem_cons.mp hx with e | e
      · subst e; exact n
      · cases e)⟩
  | _ => exact p3.elim

/-! ### built-in functions -/
/-- a built-in by values, of data -/
structure Bi (X : Cx) (f : Value) (ms : List Md) (m : Md) (g : List D → R D) : Prop where
  ne : ∀ ds c, g ds ≠ .er c
  rule : ∃ r, CallR X f r ∧ ∀ (ec : Str → Value) (W : WX) (σ : L2.St) (F H : Hp) (vs : List V) (ds : List D) (Q : VK), Same F H → RpL X.K F H ms vs ds → PoE X.K ec W m F H σ Q (g ds) → r vs H Q
structure BiO (X : Cx) (f : Value) (ms : List Md) (g : List D → R S) : Prop where
  ne : ∀ ds c, g ds ≠ .er c
  rule : ∃ r, CallR X f r ∧ ∀ (ec : Str → Value) (W : WX) (σ : L2.St) (F H : Hp) (vs : List V) (ds : List D) (Q : VK), Same F H → RpL X.K F H ms vs ds → PoO X.K ec W F H σ Q (g ds) → r vs H Q
def cal (fs : En → R (List D)) {A : Type} (g : List D → R A) : En → R A := fun env => (fs env).bind g
variable {x : Str} {p : Pos} {e : Expr} {es : List Expr} {ms : List Md} {fs : En → R (List D)} {id T : String}
theorem de_callB {g : List D → R D} (B : Bi X (.builtin id) ms m g) (hg : Gl X x) (hm : X.mg x = none) (hv : bootBuiltins x = some (.builtin id)) (ha : DA X W ms (e :: es) fs) (hn : x ≠ "__name__" := by decide) (hdb : (x == ("__debug__" : Str)) = false := by decide)
    (he : starEach (e :: es) X.env = (false, eval e X.env) :: starEach es X.env := by rfl) (hpl : (backTo pos (starEach es X.env)).any (·.1) = false := by rfl) : DE X W m (.Call (.Name x p) (e :: es) [] pos) (cal fs g) := by
  obtain ⟨r, h1, h2⟩ := B.rule
  exact (pe_callB h1 hg hm hv ha hn hdb he hpl).wk fun σ H Q ⟨B, F, env, r, p⟩ => tA.bind r p fun vs H1 F1 ds a1 r1 q1 p1 => h2 _ _ _ _ _ _ _ _ r1.fh q1 p1
theorem de_callT {g : List D → R D} (B : Bi X (.type T) ms m g) (hg : Gl X x) (hm : X.mg x = none) (hv : bootBuiltins x = some (.type T)) (ha : DA X W ms (e :: es) fs) (hn : x ≠ "__name__" := by decide) (hdb : (x == ("__debug__" : Str)) = false := by decide)
    (he : starEach (e :: es) X.env = (false, eval e X.env) :: starEach es X.env := by rfl) (hpl : (backTo pos (starEach es X.env)).any (·.1) = false := by rfl) : DE X W m (.Call (.Name x p) (e :: es) [] pos) (cal fs g) := by
  obtain ⟨r, h1, h2⟩ := B.rule
  exact (pe_callTy h1 hg hm hv ha hn hdb he hpl).wk fun σ H Q ⟨B, F, env, r, p⟩ => tA.bind r p fun vs H1 F1 ds a1 r1 q1 p1 => h2 _ _ _ _ _ _ _ _ r1.fh q1 p1
/-- a module's name for a built-in -/
theorem de_callM {g : List D → R D} (B : Bi X (.builtin id) ms m g) (hg : Gl X x) (hm : X.mg x = some (.builtin id)) (ha : DA X W ms (e :: es) fs) (hdb : (x == ("__debug__" : Str)) = false := by decide)
    (he : starEach (e :: es) X.env = (false, eval e X.env) :: starEach es X.env := by rfl) (hpl : (backTo pos (starEach es X.env)).any (·.1) = false := by rfl) : DE X W m (.Call (.Name x p) (e :: es) [] pos) (cal fs g) := by
  obtain ⟨r, h1, h2⟩ := B.rule
  exact (pe_callBfun h1 hg hm ha hdb he hpl).wk fun σ H Q ⟨B, F, env, r, p⟩ => tA.bind r p fun vs H1 F1 ds a1 r1 q1 p1 => h2 _ _ _ _ _ _ _ _ r1.fh q1 p1
theorem do_callB {g : List D → R S} (B : BiO X (.builtin id) ms g) (hg : Gl X x) (hm : X.mg x = none) (hv : bootBuiltins x = some (.builtin id)) (ha : DA X W ms (e :: es) fs) (hn : x ≠ "__name__" := by decide) (hdb : (x == ("__debug__" : Str)) = false := by decide)
    (he : starEach (e :: es) X.env = (false, eval e X.env) :: starEach es X.env := by rfl) (hpl : (backTo pos (starEach es X.env)).any (·.1) = false := by rfl) : DO X W (.Call (.Name x p) (e :: es) [] pos) (cal fs g) := by
  obtain ⟨r, h1, h2⟩ := B.rule
  exact (pe_callB h1 hg hm hv ha hn hdb he hpl).wk fun σ H Q ⟨B, F, env, r, p⟩ => tA.bindO r p fun vs H1 F1 ds a1 r1 q1 p1 => h2 _ _ _ _ _ _ _ _ r1.fh q1 p1
theorem do_callT {g : List D → R S} (B : BiO X (.type T) ms g) (hg : Gl X x) (hm : X.mg x = none) (hv : bootBuiltins x = some (.type T)) (ha : DA X W ms (e :: es) fs) (hn : x ≠ "__name__" := by decide) (hdb : (x == ("__debug__" : Str)) = false := by decide)
    (he : starEach (e :: es) X.env = (false, eval e X.env) :: starEach es X.env := by rfl) (hpl : (backTo pos (starEach es X.env)).any (·.1) = false := by rfl) : DO X W (.Call (.Name x p) (e :: es) [] pos) (cal fs g) := by
  obtain ⟨r, h1, h2⟩ := B.rule
  exact (pe_callTy h1 hg hm hv ha hn hdb he hpl).wk fun σ H Q ⟨B, F, env, r, p⟩ => tA.bindO r p fun vs H1 F1 ds a1 r1 q1 p1 => h2 _ _ _ _ _ _ _ _ r1.fh q1 p1
def one {A : Type} (g : D → R A) : List D → R A
  | [d] => g d
  | _ => .no
def two {A : Type} (g : D → D → R A) : List D → R A
  | [d, e] => g d e
  | _ => .no
theorem one_ne {A : Type} {g : D → R A} (h : ∀ d c, g d ≠ .er c) : ∀ ds c, one g ds ≠ .er c := fun ds c => by
  unfold one
  split
  · exact h _ _
  · exact (fun z => nomatch z)
theorem two_ne {A : Type} {g : D → D → R A} (h : ∀ d e c, g d e ≠ .er c) : ∀ ds c, two g ds ≠ .er c := fun ds c => by
  unfold two
  split
  · exact h _ _ _
  · exact (fun z => nomatch z)
def lenD : D → R D
  | .str x => if x.length ≤ sizeLine then .ok (.int x.length) else .no
  | .list ds => .ok (.int ds.length)
  | .tuple ds => .ok (.int ds.length)
  | _ => .no
theorem lenD_ne : ∀ d c, lenD d ≠ .er c := fun d c => by
  unfold lenD
  repeat' split
  all_goals exact (fun z => nomatch z)
theorem bi_len : Bi X (.builtin "len") [.h] m (one lenD) := ⟨one_ne lenD_ne, _, call_len, fun ec W σ F H vs ds Q s r p => by
  cases r with
  | cons q t =>
    cases t
    rename_i v d
    have q : Dp X.K H v d := q
    cases q with
    | str x =>
      simp only [one, lenD] at p
      split at p
      · rename_i hl; exact ⟨_, _, rfl, ⟨hl, rfl⟩, p _ _ _ (After.refl s) (Rp.int _)⟩
      · exact p.elim
    | @lst a xs ds hs ha => exact ⟨_, xs.length, rfl, .inl ⟨xs, hs, rfl⟩, by rw [ha.len]; exact p _ _ _ (After.refl s) (Rp.int _)⟩
    | @tup a xs ds hs ha => exact ⟨_, xs.length, rfl, .inr ⟨xs, hs, rfl⟩, by rw [ha.len]; exact p _ _ _ (After.refl s) (Rp.int _)⟩
    | _ => exact p.elim⟩
def absD : D → R D
  | .int i => .ok (.int (if i < 0 then -i else i))
  | _ => .no
theorem bi_abs : Bi X (.builtin "abs") [.h] m (one absD) := ⟨one_ne fun d c => by unfold absD; split <;> exact (fun z => nomatch z), _, call_abs, fun ec W σ F H vs ds Q s r p => by
  cases r with
  | cons q t =>
    cases t
    rename_i v d
    cases d with
    | int i => exact ⟨i, by rw [q.intI], p _ _ _ (After.refl s) (Rp.int _)⟩
    | _ => exact p.elim⟩
def intD : D → R D
  | .int i => .ok (.int i)
  | .bool k => .ok (.int (if k then 1 else 0))
  | _ => .no
theorem bi_int : Bi X (.type "int") [.h] m (one intD) := ⟨one_ne fun d c => by unfold intD; split <;> exact (fun z => nomatch z), _, call_int1, fun ec W σ F H vs ds Q s r p => by
  cases r with
  | cons q t =>
    cases t
    rename_i v d
    cases d with
    | int i => exact .inl ⟨i, by rw [q.intI], p _ _ _ (After.refl s) (Rp.int _)⟩
    | bool k => exact .inr ⟨k, by rw [q.blI], p _ _ _ (After.refl s) (Rp.int _)⟩
    | _ => exact p.elim⟩
def gcdD : D → D → R D
  | .int a, .int b => .ok (.int ((Nat.gcd a.natAbs b.natAbs : Nat) : Int))
  | _, _ => .no
theorem bi_gcd : Bi X (.builtin "math.gcd") [.h, .h] m (two gcdD) := ⟨two_ne fun d e c => by unfold gcdD; split <;> exact (fun z => nomatch z), _, cr_gcd, fun ec W σ F H vs ds Q s r p => by
  cases r with
  | cons q t =>
    cases t with
    | cons q' t =>
      cases t
      rename_i v d v' d'
      cases d with
      | int i =>
        cases d' with
        | int j => exact ⟨i, j, by rw [q.intI, q'.intI], p _ _ _ (After.refl s) (Rp.int _)⟩
        | _ => exact p.elim
      | _ => exact p.elim⟩
def bitsD : D → R D
  | .int i => .ok (.int (Builtin.Int.intBits i : Nat))
  | _ => .no
def listD : D → R S
  | .list ds => .ok (.ow (ds.map .fr))
  | .tuple ds => .ok (.ow (ds.map .fr))
  | _ => .no
theorem bo_list : BiO X (.type "list") [.q] (one listD) := ⟨one_ne fun d c => by unfold listD; split <;> exact (fun z => nomatch z), _, call_list_of, fun ec W σ F H vs ds Q s r p => by
  cases r with
  | cons q t =>
    cases t
    rename_i v d
    have fin : ∀ {ds : List D} {vs : List V}, DpAll X.K F vs ds → PoO X.K ec W F H σ Q (.ok (.ow (ds.map .fr))) → ∀ l, H l = none → Q (.ref l) (upd H l (.lst vs)) := fun {ds vs} h2 p l n => p _ _ _ [l] (After.newO s n) (.ow (as := []) (s.free n) upd_same (OwAll.ofDp h2)) (by simp) (fun x hx => by
      rcases List.mem_cons.mp hx with e | e
      · subst e; exact n
      · cases e)
    cases d with
    | list ds =>
      obtain ⟨a, vs, rfl, h1, h2⟩ := q.items (by intro z; cases z) s
      exact ⟨a, vs, rfl, .inl h1, fin h2 p⟩
    | tuple ds =>
      obtain ⟨a, vs, rfl, h1, h2⟩ := q.itemsT (by intro z; cases z) s
      exact ⟨a, vs, rfl, .inr h1, fin h2 p⟩
    | _ => exact p.elim⟩
def tupleD : D → R D
  | .list ds => .ok (.tuple ds)
  | _ => .no
theorem bi_tuple : Bi X (.type "tuple") [.q] .f (one tupleD) := ⟨one_ne fun d c => by unfold tupleD; split <;> exact (fun z => nomatch z), _, call_tuple_of, fun ec W σ F H vs ds Q s r p => by
  cases r with
  | cons q t =>
    cases t
    rename_i v d
    cases d with
    | list ds =>
      obtain ⟨a, vs, rfl, h1, h2⟩ := q.items (by intro z; cases z) s
      exact ⟨a, vs, rfl, .inl ⟨h1, fun l n => p _ _ _ (After.new s n) (.tup (SqT.of upd_same) (DpAll.mono (After.new s n).ff _ _ h2))⟩⟩
    | _ => exact p.elim⟩
/-! lists of ints, of bools -/
def ints? : List D → Option (List Int)
  | [] => some []
  | .int i :: ds => (ints? ds).map (i :: ·)
  | _ :: _ => none
theorem ints?_dp {K : PySem.W.Frag} {F : Hp} : ∀ {vs : List V} {ds : List D} {ns : List Int}, DpAll K F vs ds → ints? ds = some ns → vs = ns.map V.int
  | _, [], _, .nil, e => by cases e; rfl
  | _, .int i :: ds, ns, .cons a t, e => by
    rw [ints?] at e
    cases q : ints? ds with
    | none => rw [q] at e; cases e
    | some es =>
      rw [q] at e; cases e
      cases a
      rw [ints?_dp t q]; rfl
  | _, .none :: _, _, _, e => by cases e
  | _, .bool _ :: _, _, _, e => by cases e
  | _, .str _ :: _, _, _, e => by cases e
  | _, .list _ :: _, _, _, e => by cases e
  | _, .tuple _ :: _, _, _, e => by cases e
  | _, .dict _ :: _, _, _, e => by cases e
theorem ints?_map : ∀ ns : List Int, ints? (ns.map PyData.int) = some ns
  | [] => rfl
  | n :: ns => by show (ints? (ns.map PyData.int)).map (n :: ·) = _; rw [ints?_map ns]; rfl
def bools? : List D → Option (List Bool)
  | [] => some []
  | .bool i :: ds => (bools? ds).map (i :: ·)
  | _ :: _ => none
theorem bools?_dp {K : PySem.W.Frag} {F : Hp} : ∀ {vs : List V} {ds : List D} {ns : List Bool}, DpAll K F vs ds → bools? ds = some ns → vs = ns.map V.bl
  | _, [], _, .nil, e => by cases e; rfl
  | _, .bool i :: ds, ns, .cons a t, e => by
    rw [bools?] at e
    cases q : bools? ds with
    | none => rw [q] at e; cases e
    | some es =>
      rw [q] at e; cases e
      cases a
      rw [bools?_dp t q]; rfl
  | _, .none :: _, _, _, e => by cases e
  | _, .int _ :: _, _, _, e => by cases e
  | _, .str _ :: _, _, _, e => by cases e
  | _, .list _ :: _, _, _, e => by cases e
  | _, .tuple _ :: _, _, _, e => by cases e
  | _, .dict _ :: _, _, _, e => by cases e
theorem bools?_map : ∀ ns : List Bool, bools? (ns.map PyData.bool) = some ns
  | [] => rfl
  | n :: ns => by show (bools? (ns.map PyData.bool)).map (n :: ·) = _; rw [bools?_map ns]; rfl
def onInts {A : Type} (g : List Int → R A) : D → R A
  | .list ds => match ints? ds with
    | some ns => g ns
    | none => .no
  | _ => .no
def onBools {A : Type} (g : List Bool → R A) : D → R A
  | .list ds => match bools? ds with
    | some ns => g ns
    | none => .no
  | _ => .no
theorem onInts_ne {A : Type} {g : List Int → R A} (h : ∀ d c, g d ≠ .er c) : ∀ ds c, onInts g ds ≠ .er c := fun ds c => by
  unfold onInts
  repeat' split
  all_goals first | exact h _ _ | exact (fun z => nomatch z)
theorem onBools_ne {A : Type} {g : List Bool → R A} (h : ∀ d c, g d ≠ .er c) : ∀ ds c, onBools g ds ≠ .er c := fun ds c => by
  unfold onBools
  repeat' split
  all_goals first | exact h _ _ | exact (fun z => nomatch z)
/-- what a built-in over a list of ints asks -/
theorem onInts_r {K : PySem.W.Frag} {F H : Hp} {v : V} {d : D} {A : Type} {g : List Int → R A} {P : R A → Prop} (q : Dp K H v d) (p : P (onInts g d)) (h0 : ¬ P .no) : ∃ a ns, v = .ref a ∧ SqL K H a (ns.map V.int) ∧ P (g ns) := by
  cases q with
  | lst hs ha =>
    simp only [onInts] at p
    split at p
    · rename_i ns e
      have := ints?_dp ha e
      subst this
      exact ⟨_, ns, rfl, hs, p⟩
    · exact absurd p h0
  | _ => exact absurd p h0
theorem onBools_r {K : PySem.W.Frag} {F H : Hp} {v : V} {d : D} {A : Type} {g : List Bool → R A} {P : R A → Prop} (q : Dp K H v d) (p : P (onBools g d)) (h0 : ¬ P .no) : ∃ a ns, v = .ref a ∧ SqL K H a (ns.map V.bl) ∧ P (g ns) := by
  cases q with
  | lst hs ha =>
    simp only [onBools] at p
    split at p
    · rename_i ns e
      have := bools?_dp ha e
      subst this
      exact ⟨_, ns, rfl, hs, p⟩
    · exact absurd p h0
  | _ => exact absurd p h0
def sumL (ns : List Int) : R D := .ok (.int ns.sum)
theorem bi_sum (hc : X.calm = true) : Bi X (.builtin "sum") [.h] m (one (onInts sumL)) := ⟨one_ne (onInts_ne fun _ _ z => (nomatch z)), _, cr_sum hc, fun ec W σ F H vs ds Q s r p => by
  cases r with
  | cons q t =>
    cases t
    obtain ⟨a, ns, rfl, h1, p⟩ := onInts_r (F := F) q p (fun z => z)
    exact ⟨a, ns, rfl, h1, p _ _ _ (After.refl s) (Rp.int _)⟩⟩
def maxI : List Int → Int
  | [] => 0
  | x :: xs => xs.foldl (fun m y => if m < y then y else m) x
def minI : List Int → Int
  | [] => 0
  | x :: xs => xs.foldl (fun m y => if y < m then y else m) x
theorem maxI_fold : ∀ (xs : List Int) (x : Int), (xs.foldl (fun m y => if m < y then y else m) x ∈ x :: xs) ∧ ∀ y ∈ x :: xs, y ≤ xs.foldl (fun m y => if m < y then y else m) x
  | [], x => ⟨List.mem_cons_self, fun y hy => (List.mem_cons.mp hy).elim (fun e => Int.le_of_eq e) (fun e => by cases e)⟩
  | z :: xs, x => by
    obtain ⟨h1, h2⟩ := maxI_fold xs (if x < z then z else x)
    rw [List.foldl_cons]
    refine ⟨?_, fun y hy => ?_⟩
    · rcases List.mem_cons.mp h1 with e | e
      · rw [e]
        split
        · exact List.mem_cons_of_mem _ List.mem_cons_self
        · exact List.mem_cons_self
      · exact List.mem_cons_of_mem _ (List.mem_cons_of_mem _ e)
    · have h3 := h2 _ List.mem_cons_self
      rcases List.mem_cons.mp hy with e | e
      · subst e
        refine Int.le_trans ?_ h3
        split <;> omega
      · rcases List.mem_cons.mp e with e | e
        · subst e
          refine Int.le_trans ?_ h3
          split <;> omega
        · exact h2 y (List.mem_cons_of_mem _ e)
theorem minI_fold : ∀ (xs : List Int) (x : Int), (xs.foldl (fun m y => if y < m then y else m) x ∈ x :: xs) ∧ ∀ y ∈ x :: xs, xs.foldl (fun m y => if y < m then y else m) x ≤ y
  | [], x => ⟨List.mem_cons_self, fun y hy => (List.mem_cons.mp hy).elim (fun e => Int.le_of_eq e.symm) (fun e => by cases e)⟩
  | z :: xs, x => by
    obtain ⟨h1, h2⟩ := minI_fold xs (if z < x then z else x)
    rw [List.foldl_cons]
    refine ⟨?_, fun y hy => ?_⟩
    · rcases List.mem_cons.mp h1 with e | e
      · rw [e]
        split
        · exact List.mem_cons_of_mem _ List.mem_cons_self
        · exact List.mem_cons_self
      · exact List.mem_cons_of_mem _ (List.mem_cons_of_mem _ e)
    · have h3 := h2 _ List.mem_cons_self
      rcases List.mem_cons.mp hy with e | e
      · subst e
        refine Int.le_trans h3 ?_
        split <;> omega
      · rcases List.mem_cons.mp e with e | e
        · subst e
          refine Int.le_trans h3 ?_
          split <;> omega
        · exact h2 y (List.mem_cons_of_mem _ e)
theorem maxI_eq {ns : List Int} {m : Int} (h : 0 < ns.length) (h1 : m ∈ ns) (h2 : ∀ y, y ∈ ns → y ≤ m) : m = maxI ns := by
  cases ns with
  | nil => cases h
  | cons x xs =>
    obtain ⟨h3, h4⟩ := maxI_fold xs x
    exact Int.le_antisymm (h4 m h1) (h2 _ h3)
theorem minI_eq {ns : List Int} {m : Int} (h : 0 < ns.length) (h1 : m ∈ ns) (h2 : ∀ y, y ∈ ns → m ≤ y) : m = minI ns := by
  cases ns with
  | nil => cases h
  | cons x xs =>
    obtain ⟨h3, h4⟩ := minI_fold xs x
    exact Int.le_antisymm (h2 _ h3) (h4 m h1)
def maxL (ns : List Int) : R D := if 0 < ns.length then .ok (.int (maxI ns)) else .no
def minL (ns : List Int) : R D := if 0 < ns.length then .ok (.int (minI ns)) else .no
theorem bi_max (hc : X.calm = true) : Bi X (.builtin "max") [.h] m (one (onInts maxL)) := ⟨one_ne (onInts_ne fun _ _ => by unfold maxL; split <;> exact (fun z => nomatch z)), _, cr_max hc, fun ec W σ F H vs ds Q s r p => by
  cases r with
  | cons q t =>
    cases t
    obtain ⟨a, ns, rfl, h1, p⟩ := onInts_r (F := F) q p (fun z => z)
    unfold maxL at p
    split at p
    · rename_i hl
      exact ⟨a, ns, rfl, h1, hl, fun m h2 h3 => by rw [maxI_eq hl h2 h3]; exact p _ _ _ (After.refl s) (Rp.int _)⟩
    · exact p.elim⟩
theorem bi_min (hc : X.calm = true) : Bi X (.builtin "min") [.h] m (one (onInts minL)) := ⟨one_ne (onInts_ne fun _ _ => by unfold minL; split <;> exact (fun z => nomatch z)), _, cr_min hc, fun ec W σ F H vs ds Q s r p => by
  cases r with
  | cons q t =>
    cases t
    obtain ⟨a, ns, rfl, h1, p⟩ := onInts_r (F := F) q p (fun z => z)
    unfold minL at p
    split at p
    · rename_i hl
      exact ⟨a, ns, rfl, h1, hl, fun m h2 h3 => by rw [minI_eq hl h2 h3]; exact p _ _ _ (After.refl s) (Rp.int _)⟩
    · exact p.elim⟩
def max2D : D → D → R D
  | .int i, .int j => .ok (.int (if j > i then j else i))
  | _, _ => .no
def min2D : D → D → R D
  | .int i, .int j => .ok (.int (if j < i then j else i))
  | _, _ => .no
theorem bi_max2 (hc : X.calm = true) : Bi X (.builtin "max") [.h, .h] m (two max2D) := ⟨two_ne fun d e c => by unfold max2D; split <;> exact (fun z => nomatch z), _, call_max2 hc, fun ec W σ F H vs ds Q s r p => by
  cases r with
  | cons q t =>
    cases t with
    | cons q' t =>
      cases t
      rename_i v d v' d'
      cases d with
      | int i =>
        cases d' with
        | int j => exact ⟨i, j, by rw [q.intI, q'.intI], p _ _ _ (After.refl s) (Rp.int _)⟩
        | _ => exact p.elim
      | _ => exact p.elim⟩
theorem bi_min2 (hc : X.calm = true) : Bi X (.builtin "min") [.h, .h] m (two min2D) := ⟨two_ne fun d e c => by unfold min2D; split <;> exact (fun z => nomatch z), _, call_min2 hc, fun ec W σ F H vs ds Q s r p => by
  cases r with
  | cons q t =>
    cases t with
    | cons q' t =>
      cases t
      rename_i v d v' d'
      cases d with
      | int i =>
        cases d' with
        | int j => exact ⟨i, j, by rw [q.intI, q'.intI], p _ _ _ (After.refl s) (Rp.int _)⟩
        | _ => exact p.elim
      | _ => exact p.elim⟩
def anyL (ns : List Bool) : R D := .ok (.bool (ns.any (fun b => b)))
def allL (ns : List Bool) : R D := .ok (.bool (ns.all fun b => b))
theorem bi_any (hc : X.calm = true) : Bi X (.builtin "any") [.h] m (one (onBools anyL)) := ⟨one_ne (onBools_ne fun _ _ z => (nomatch z)), _, cr_any hc, fun ec W σ F H vs ds Q s r p => by
  cases r with
  | cons q t =>
    cases t
    obtain ⟨a, ns, rfl, h1, p⟩ := onBools_r (F := F) q p (fun z => z)
    exact ⟨a, ns, rfl, h1, p _ _ _ (After.refl s) (Rp.bl _)⟩⟩
theorem bi_all (hc : X.calm = true) : Bi X (.builtin "all") [.h] m (one (onBools allL)) := ⟨one_ne (onBools_ne fun _ _ z => (nomatch z)), _, cr_all hc, fun ec W σ F H vs ds Q s r p => by
  cases r with
  | cons q t =>
    cases t
    obtain ⟨a, ns, rfl, h1, p⟩ := onBools_r (F := F) q p (fun z => z)
    exact ⟨a, ns, rfl, h1, p _ _ _ (After.refl s) (Rp.bl _)⟩⟩
/-- sorted, of ints -/
def sortI (ns : List Int) : List Int := ns.mergeSort fun a b => decide (a ≤ b)
theorem sortI_eq {ns ms : List Int} (h : ms.Perm ns) (s : ms.Pairwise (· ≤ ·)) : ms = sortI ns := by
  have h1 : (sortI ns).Perm ns := List.mergeSort_perm _ _
  have h2 : (sortI ns).Pairwise (· ≤ ·) := by
    have := List.pairwise_mergeSort (le := fun a b : Int => decide (a ≤ b)) (fun a b c h1 h2 => by simp only [decide_eq_true_eq] at *; omega) (fun a b => by simp only [Bool.or_eq_true, decide_eq_true_eq]; omega) ns
    exact this.imp fun h => by simpa using h
  exact List.Perm.eq_of_pairwise (le := (· ≤ ·)) (fun a b _ _ h1 h2 => Int.le_antisymm h1 h2) s h2 (h.trans h1.symm)
def sortL (ns : List Int) : R S := .ok (.ow ((sortI ns).map fun i => .fr (.int i)))
theorem dp_ints {K : PySem.W.Frag} {F : Hp} : ∀ ns : List Int, DpAll K F (ns.map V.int) (ns.map PyData.int)
  | [] => .nil
  | n :: ns => .cons (.int n) (dp_ints ns)
theorem bo_sorted : BiO X (.builtin "sorted") [.h] (one (onInts sortL)) := ⟨one_ne (onInts_ne fun _ _ z => (nomatch z)), _, cr_sortedI, fun ec W σ F H vs ds Q s r p => by
  cases r with
  | cons q t =>
    cases t
    obtain ⟨a, ns, rfl, h1, p⟩ := onInts_r (F := F) q p (fun z => z)
    refine ⟨a, ns, rfl, h1, fun ns' l h2 h3 n => ?_⟩
    rw [sortI_eq h2 h3]
    have q := OwAll.ofDp (F := F) (H := upd H l (.lst ((sortI ns).map V.int))) (dp_ints (K := X.K) (sortI ns))
    rw [List.map_map] at q
    exact p _ _ _ [l] (After.newO s n) (.ow (as := []) (s.free n) upd_same q) (by simp) (fun x hx => by
      rcases List.mem_cons.mp hx with e | e
      · subst e; exact n
      · cases e)⟩
end
end DL
namespace DL
open PySem PySem.Spec PyProof.Rows L2
variable [Tabs]
/-! ### what a for walks -/
/-- J hands out ds, over every heap that keeps G; F: what may be shared -/
def ItOk (K : PySem.W.Frag) (G : Hp) (J : It) (F : Hp) (ds : List D) : Prop :=
  (∀ i H, Same G H → i < ds.length → J.go i H) ∧ (∀ i H, Same G H → ds.length ≤ i → J.stop i H) ∧
    ∀ i H Fc x H', Same G H → Same F Fc → Same Fc H → i < ds.length → J.yld i H x H' → ∃ d F', ds[i]? = some d ∧ After Fc H F' H' ∧ Dp K F' x d
def PoI (K : PySem.W.Frag) (ec : Str → Value) (W : WX) (st : Bool) (F H : Hp) (σ : L2.St) (Q : It → Hp → Prop) : R (List D) → Prop
  | .ok ds => ∀ J H' F', After F H F' H' → ItOk K (if st then F' else H') J F' ds → Q J H'
  | .er c => ∀ H' F', After F H F' H' → W (ec c) none σ H'
  | .no => False
def tI (K : PySem.W.Frag) (ec : Str → Value) (W : WX) (st : Bool) (f : En → R (List D)) : TI := fun σ H Q => ∃ B F env, Rel K B F H env σ ∧ PoI K ec W st F H σ Q (f env)
def DI (X : Cx) (tg : Expr) (W : WX) (st : Bool) (e : Expr) (f : En → R (List D)) : Prop := PI X tg e (tI X.K (ecOf X.mg) W st f)
theorem _root_.L2.PI.wk {X : Cx} {tg e : Expr} {t t' : TI} (h : PI X tg e t) (k : ∀ σ H Q, t' σ H Q → t σ H Q) : PI X tg e t' := ⟨fun pins s σ H Q I q => h.run pins s σ H Q I (k _ _ _ q)⟩
theorem _root_.L2.PI.or {X : Cx} {tg e : Expr} {t t' : TI} (h : PI X tg e t) (h' : PI X tg e t') : PI X tg e (fun σ H Q => t σ H Q ∨ t' σ H Q) := ⟨fun pins s σ H Q I q => q.elim (fun q => h.run pins s σ H Q I q) fun q => h'.run pins s σ H Q I q⟩
section
variable {K : PySem.W.Frag} {ec : Str → Value} {W : WX} {st : Bool} {F H F' H' : Hp} {σ : L2.St}
theorem PoI.after {Q : It → Hp → Prop} {r : R (List D)} (p : PoI K ec W st F H σ Q r) (x : After F H F' H') : PoI K ec W st F' H' σ Q r := by
  cases r with
  | ok d => exact fun v H2 F2 a r => p v H2 F2 (x.trans a) r
  | er c => exact fun H2 F2 a => p H2 F2 (x.trans a)
  | no => exact p
theorem tD.bindI {m1 : Md} {B : Hp} {env : En} {f : En → R D} {k : D → R (List D)} {Q : It → Hp → Prop} (r : Rel K B F H env σ) (p : PoI K ec W st F H σ Q ((f env).bind k))
    {Q' : VK} (h : ∀ v H' F' d, After F H F' H' → Rel K B F' H' env σ → Rp K m1 F' H' v d → PoI K ec W st F' H' σ Q (k d) → Q' v H') : tD K ec W m1 f σ H Q' := by
  refine ⟨B, F, env, r, ?_⟩
  cases e : f env with
  | ok d => rw [e] at p; exact fun v H' F' a q => h v H' F' d a (r.after a) q (PoI.after (r := k d) p a)
  | er c => rw [e] at p; exact p
  | no => rw [e] at p; exact p
theorem tA.bindI {B : Hp} {env : En} {f : En → R (List D)} {ms : List Md} {k : List D → R (List D)} {Q : It → Hp → Prop} (r : Rel K B F H env σ) (p : PoI K ec W st F H σ Q ((f env).bind k))
    {Q' : List V → Hp → Prop} (h : ∀ vs H' F' ds, After F H F' H' → Rel K B F' H' env σ → RpL K F' H' ms vs ds → PoI K ec W st F' H' σ Q (k ds) → Q' vs H') : tA K ec W ms f σ H Q' := by
  refine ⟨B, F, env, r, ?_⟩
  cases e : f env with
  | ok d => rw [e] at p; exact fun v H' F' a q => h v H' F' d a (r.after a) q (PoI.after (r := k d) p a)
  | er c => rw [e] at p; exact p
  | no => rw [e] at p; exact p
theorem itl_ok {G : Hp} {a : Addr} {vs : List V} {ds : List D} (h1 : SqL K G a vs) (h2 : DpAll K F vs ds) : ItOk K G (Itl K a) F ds := by
  refine ⟨fun i H s hi => ?_, fun i H s hi => ⟨vs, s.seq h1, by rw [h2.len]; exact hi⟩, fun i H Fc x H' s sf sh hi y => ?_⟩
  · have hv : i < vs.length := by rw [h2.len]; exact hi
    exact ⟨vs, vs[i], s.seq h1, List.getElem?_eq_getElem hv⟩
  · obtain ⟨rfl, y⟩ := y
    obtain ⟨d, e1, e2⟩ := h2.get (y vs (s.seq h1))
    exact ⟨d, Fc, e1, After.refl sh, Dp.mono sf _ _ e2⟩
theorem itt_ok {G : Hp} {a : Addr} {vs : List V} {ds : List D} (h1 : SqT K G a vs) (h2 : DpAll K F vs ds) : ItOk K G (Itt K a) F ds := by
  refine ⟨fun i H s hi => ?_, fun i H s hi => ⟨vs, SqT.same s h1, by rw [h2.len]; exact hi⟩, fun i H Fc x H' s sf sh hi y => ?_⟩
  · have hv : i < vs.length := by rw [h2.len]; exact hi
    exact ⟨vs, vs[i], SqT.same s h1, List.getElem?_eq_getElem hv⟩
  · obtain ⟨rfl, y⟩ := y
    obtain ⟨d, e1, e2⟩ := h2.get (y vs (SqT.same s h1))
    exact ⟨d, Fc, e1, After.refl sh, Dp.mono sf _ _ e2⟩
theorem itv_ok {G : Hp} {a : Addr} {vs : List V} {ds : List D} (h1 : SqL K G a vs) (h2 : DpAll K F vs ds) : ItOk K G (Itv K a vs.length) F ds.reverse := by
  have hl := h2.len
  refine ⟨fun i H s hi => ?_, fun i H s hi => ?_, fun i H Fc x H' s sf sh hi y => ?_⟩
  · rw [List.length_reverse] at hi
    have hv : vs.length - 1 - i < vs.length := by omega
    exact ⟨by omega, vs, vs[vs.length - 1 - i], s.seq h1, List.getElem?_eq_getElem hv⟩
  · rw [List.length_reverse] at hi
    show vs.length ≤ i
    omega
  · obtain ⟨rfl, y⟩ := y
    have hy := y vs (s.seq h1)
    obtain ⟨d, e1, e2⟩ := h2.get hy
    refine ⟨d, Fc, ?_, After.refl sh, Dp.mono sf _ _ e2⟩
    rw [List.length_reverse] at hi
    rw [List.getElem?_reverse (by omega), ← hl]; exact e1
def rngL (lo : Int) (n : Nat) : List D := (List.range n).map fun i => .int (lo + (i : Nat))
theorem rngL_len {lo : Int} {n : Nat} : (rngL lo n).length = n := by unfold rngL; simp
theorem rngL_get {lo : Int} {n i : Nat} (h : i < n) : (rngL lo n)[i]? = some (.int (lo + (i : Nat))) := by unfold rngL; simp [h]
theorem itr_ok {G : Hp} {lo : Int} {n : Nat} : ItOk K G (Itr lo n) F (rngL lo n) := by
  refine ⟨fun i H s hi => by rw [rngL_len] at hi; exact hi, fun i H s hi => by rw [rngL_len] at hi; exact hi, fun i H Fc x H' s sf sh hi y => ?_⟩
  obtain ⟨rfl, rfl⟩ := y
  rw [rngL_len] at hi
  exact ⟨_, Fc, rngL_get hi, After.refl sh, .int _⟩
def stpL (lo c : Int) (n : Nat) : List D := (List.range n).map fun i => .int (lo + (i : Nat) * c)
theorem stpL_len {lo c : Int} {n : Nat} : (stpL lo c n).length = n := by unfold stpL; simp
theorem stpL_get {lo c : Int} {n i : Nat} (h : i < n) : (stpL lo c n)[i]? = some (.int (lo + (i : Nat) * c)) := by unfold stpL; simp [h]
theorem itc_ok {G : Hp} {lo c : Int} {n : Nat} : ItOk K G (Itc lo c n) F (stpL lo c n) := by
  refine ⟨fun i H s hi => by rw [stpL_len] at hi; exact hi, fun i H s hi => by rw [stpL_len] at hi; exact hi, fun i H Fc x H' s sf sh hi y => ?_⟩
  obtain ⟨rfl, rfl⟩ := y
  rw [stpL_len] at hi
  exact ⟨_, Fc, stpL_get hi, After.refl sh, .int _⟩
def enuL (k : Nat) : List D → List D
  | [] => []
  | d :: ds => .tuple [.int (k : Nat), d] :: enuL (k + 1) ds
theorem enuL_len : ∀ (ds : List D) (k : Nat), (enuL k ds).length = ds.length
  | [], _ => rfl
  | _ :: ds, k => by simp [enuL, enuL_len ds (k + 1)]
theorem enuL_get : ∀ (ds : List D) (k i : Nat) (d : D), ds[i]? = some d → (enuL k ds)[i]? = some (.tuple [.int ((k + i : Nat) : Int), d])
  | [], _, _, _, h => by simp at h
  | e :: ds, k, 0, d, h => by simp at h; subst h; rfl
  | e :: ds, k, i + 1, d, h => by
    have := enuL_get ds (k + 1) i d (by simpa using h)
    rw [show k + (i + 1) = k + 1 + i by omega]
    simpa [enuL] using this
/-- a pair that an iterator lays anew -/
theorem pair_new {Fc H : Hp} {p : Addr} {x y : V} {d e : D} (sh : Same Fc H) (n : H p = none) (h1 : Dp K Fc x d) (h2 : Dp K Fc y e) : ∃ F', After Fc H F' (upd H p (.tup [x, y])) ∧ Dp K F' (.ref p) (.tuple [d, e]) :=
  ⟨_, After.new sh n, .tup (SqT.of upd_same) (.cons (Dp.mono (After.new sh n).ff _ _ h1) (.cons (Dp.mono (After.new sh n).ff _ _ h2) .nil))⟩
theorem ite_ok {G : Hp} {a : Addr} {vs : List V} {ds : List D} (h1 : SqL K G a vs) (h2 : DpAll K F vs ds) : ItOk K G (Ite K a) F (enuL 0 ds) := by
  refine ⟨fun i H s hi => ?_, fun i H s hi => ?_, fun i H Fc x H' s sf sh hi y => ?_⟩
  · rw [enuL_len] at hi
    have hv : i < vs.length := by rw [h2.len]; exact hi
    exact ⟨vs, vs[i], s.seq h1, List.getElem?_eq_getElem hv⟩
  · rw [enuL_len] at hi
    exact ⟨vs, s.seq h1, by rw [h2.len]; exact hi⟩
  · obtain ⟨T, x, rfl, n, rfl, y⟩ := y
    obtain ⟨d, e1, e2⟩ := h2.get (y vs (s.seq h1))
    obtain ⟨F', q1, q2⟩ := pair_new (x := .int (i : Nat)) (d := .int (i : Nat)) sh n (.int _) (Dp.mono sf _ _ e2)
    refine ⟨_, F', enuL_get ds 0 i d e1, q1, ?_⟩
    rw [Nat.zero_add]
    exact q2
def zipL (ds es : List D) : List D := ds.zipWith (fun d e => .tuple [d, e]) es
theorem zipL_len (ds es : List D) : (zipL ds es).length = min ds.length es.length := by unfold zipL; simp
theorem zipL_get {ds es : List D} {i : Nat} {d e : D} (h1 : ds[i]? = some d) (h2 : es[i]? = some e) : (zipL ds es)[i]? = some (.tuple [d, e]) := by unfold zipL; simp [List.getElem?_zipWith, h1, h2]
theorem itz_ok {G : Hp} {a b : Addr} {vs us : List V} {ds es : List D} (h1 : SqL K G a vs) (h2 : DpAll K F vs ds) (h3 : SqL K G b us) (h4 : DpAll K F us es) : ItOk K G (Itz K a b) F (zipL ds es) := by
  refine ⟨fun i H s hi => ?_, fun i H s hi => ?_, fun i H Fc x H' s sf sh hi y => ?_⟩
  · rw [zipL_len] at hi
    have hv : i < vs.length := by rw [h2.len]; omega
    have hu : i < us.length := by rw [h4.len]; omega
    exact ⟨vs, us, vs[i], us[i], s.seq h1, s.seq h3, List.getElem?_eq_getElem hv, List.getElem?_eq_getElem hu⟩
  · rw [zipL_len] at hi
    exact ⟨vs, us, s.seq h1, s.seq h3, by rw [h2.len, h4.len]; omega⟩
  · obtain ⟨T, x, y', rfl, n, rfl, y1, y2⟩ := y
    obtain ⟨d, e1, e2⟩ := h2.get (y1 vs (s.seq h1))
    obtain ⟨e, e3, e4⟩ := h4.get (y2 us (s.seq h3))
    obtain ⟨F', q1, q2⟩ := pair_new sh n (Dp.mono sf _ _ e2) (Dp.mono sf _ _ e4)
    exact ⟨_, F', zipL_get e1 e3, q1, q2⟩
end
section
variable {X : Cx} {W : WX} {m : Md} {pos p tpos : Pos} {tg a b c : Expr} {fa fb : En → R D} {fs : En → R (List D)} {elts : List Expr} {kk : Nat}
def seqD : D → R (List D)
  | .list ds => .ok ds
  | .tuple ds => .ok ds
  | _ => .no
def seqR (f : En → R D) : En → R (List D) := fun env => (f env).bind seqD
theorem di_seq (ha : DE X W .f a fa) : DI X tg W true a (seqR fa) :=
  ((pi_list ha).or (pi_tup ha)).wk fun σ H Q ⟨B, F, env, r, p⟩ => by
    cases e : fa env with
    | ok d =>
      unfold seqR at p
      rw [e] at p
      cases d with
      | list ds => exact .inl ⟨B, F, env, r, by
          rw [e]
          intro v H' F' x q
          cases q with
          | lst h1 h2 => exact ⟨_, rfl, ⟨_, x.fh.seq h1⟩, p _ _ _ x (itl_ok h1 h2)⟩⟩
      | tuple ds => exact .inr ⟨B, F, env, r, by
          rw [e]
          intro v H' F' x q
          cases q with
          | tup h1 h2 => exact ⟨_, rfl, ⟨_, SqT.same x.fh h1⟩, p _ _ _ x (itt_ok h1 h2)⟩⟩
      | _ => exact p.elim
    | er c => unfold seqR at p; rw [e] at p; exact .inl ⟨B, F, env, r, by rw [e]; exact p⟩
    | no => unfold seqR at p; rw [e] at p; exact p.elim
theorem di_seqq (ha : DE X W .q a fa) : DI X tg W false a (seqR fa) :=
  ((pi_list ha).or (pi_tup ha)).wk fun σ H Q ⟨B, F, env, r, p⟩ => by
    cases e : fa env with
    | ok d =>
      unfold seqR at p
      rw [e] at p
      cases d with
      | list ds => exact .inl ⟨B, F, env, r, by
          rw [e]
          intro v H' F' x q
          obtain ⟨a, vs, rfl, h1, h2⟩ := q.items (by intro z; cases z) x.fh
          exact ⟨_, rfl, ⟨_, h1⟩, p _ _ _ x (itl_ok h1 h2)⟩⟩
      | tuple ds => exact .inr ⟨B, F, env, r, by
          rw [e]
          intro v H' F' x q
          obtain ⟨a, vs, rfl, h1, h2⟩ := q.itemsT (by intro z; cases z) x.fh
          exact ⟨_, rfl, ⟨_, h1⟩, p _ _ _ x (itt_ok h1 h2)⟩⟩
      | _ => exact p.elim
    | er c => unfold seqR at p; rw [e] at p; exact .inl ⟨B, F, env, r, by rw [e]; exact p⟩
    | no => unfold seqR at p; rw [e] at p; exact p.elim
def b62 (i : Int) : Bool := decide (-(2 ^ 62) ≤ i) && decide (i < 2 ^ 62)
def rng1 : List D → R (List D)
  | [.int i] => if b62 i = true then .ok (rngL 0 i.toNat) else .no
  | _ => .no
def rng2 : List D → R (List D)
  | [.int i, .int j] => if b62 i = true ∧ b62 j = true then .ok (rngL i (j - i).toNat) else .no
  | _ => .no
instance (i j c : Int) (n : Nat) : Decidable (RgC i j c n) := by unfold RgC; infer_instance
def rng3 : List D → R (List D)
  | [.int i, .int j, .int c] => if RgC i j c (Builtin.Range.rangeSize i j c).toNat then .ok (stpL i c (Builtin.Range.rangeSize i j c).toNat) else .no
  | _ => .no
theorem b62_of {i : Int} (h : b62 i = true) : -(2 ^ 62) ≤ i ∧ i < 2 ^ 62 := by
  unfold b62 at h
  rw [Bool.and_eq_true] at h
  exact ⟨of_decide_eq_true h.1, of_decide_eq_true h.2⟩
theorem di_rng1 {st : Bool} (hg : Gl X "range") (hm : X.mg "range" = none) (ha : DA X W [.h] [a] fs) (hs : starEach [a] X.env = [(false, eval a X.env)] := by rfl) : DI X tg W st (.Call (.Name "range" p) [a] [] pos) (cal fs rng1) :=
  (pi_range1 hg hm ha hs).wk fun σ H Q ⟨B, F, env, r, p⟩ => tA.bindI r p fun vs H1 F1 ds a1 r1 q1 p1 => by
    cases q1 with
    | cons q t =>
      cases t
      rename_i v d
      cases d with
      | int i =>
        simp only [rng1] at p1
        split at p1
        · rename_i h
          have h := b62_of h
          exact ⟨i, by rw [q.intI], h.1, h.2, p1 _ _ _ (After.refl r1.fh) itr_ok⟩
        · exact p1.elim
      | _ => exact p1.elim
theorem di_rng2 {st : Bool} (hg : Gl X "range") (hm : X.mg "range" = none) (ha : DA X W [.h, .h] [a, b] fs) (hs : starEach [a, b] X.env = [(false, eval a X.env), (false, eval b X.env)] := by rfl) (hs2 : starEach [b] X.env = [(false, eval b X.env)] := by rfl) : DI X tg W st (.Call (.Name "range" p) [a, b] [] pos) (cal fs rng2) :=
  (pi_range2 hg hm ha hs hs2).wk fun σ H Q ⟨B, F, env, r, p⟩ => tA.bindI r p fun vs H1 F1 ds a1 r1 q1 p1 => by
    cases q1 with
    | cons q t =>
      cases t with
      | cons q' t =>
        cases t
        rename_i v d v' d'
        cases d with
        | int i =>
          cases d' with
          | int j =>
            simp only [rng2] at p1
            split at p1
            · rename_i h
              have h1 := b62_of h.1
              have h2 := b62_of h.2
              exact ⟨i, j, by rw [q.intI, q'.intI], ⟨h1.1, h1.2, h2.1, h2.2⟩, p1 _ _ _ (After.refl r1.fh) itr_ok⟩
            · exact p1.elim
          | _ => exact p1.elim
        | _ => exact p1.elim
theorem di_rng3 {st : Bool} (hg : Gl X "range") (hm : X.mg "range" = none) (ha : DA X W [.h, .h, .h] [a, b, c] fs) (hs : starEach [a, b, c] X.env = (false, eval a X.env) :: starEach [b, c] X.env := by rfl) (hpl : (backTo pos (starEach [b, c] X.env)).any (·.1) = false := by rfl) : DI X tg W st (.Call (.Name "range" p) [a, b, c] [] pos) (cal fs rng3) :=
  (pi_range3 hg hm ha hs hpl).wk fun σ H Q ⟨B, F, env, r, p⟩ => tA.bindI r p fun vs H1 F1 ds a1 r1 q1 p1 => by
    cases q1 with
    | cons q t =>
      cases t with
      | cons q' t =>
        cases t with
        | cons q2 t =>
          cases t
          rename_i v d v' d' v2 d2
          cases d with
          | int i =>
            cases d' with
            | int j =>
              cases d2 with
              | int k =>
                simp only [rng3] at p1
                split at p1
                · rename_i h
                  exact ⟨i, j, k, _, by rw [q.intI, q'.intI, q2.intI], h, p1 _ _ _ (After.refl r1.fh) itc_ok⟩
                · exact p1.elim
              | _ => exact p1.elim
            | _ => exact p1.elim
          | _ => exact p1.elim
def enu1 : List D → R (List D)
  | [.list ds] => .ok (enuL 0 ds)
  | _ => .no
def rev1 : List D → R (List D)
  | [.list ds] => .ok ds.reverse
  | _ => .no
def zip2 : List D → R (List D)
  | [.list ds, .list es] => .ok (zipL ds es)
  | _ => .no
theorem di_enum (hg : Gl X "enumerate") (hm : X.mg "enumerate" = none) (ha : DA X W [.f] [a] fs) (hs : starEach [a] X.env = [(false, eval a X.env)] := by rfl) : DI X (.Tuple elts kk tpos) W true (.Call (.Name "enumerate" p) [a] [] pos) (cal fs enu1) :=
  (pi_enum hg hm ha hs).wk fun σ H Q ⟨B, F, env, r, p⟩ => tA.bindI r p fun vs H1 F1 ds a1 r1 q1 p1 => by
    cases q1 with
    | cons q t =>
      cases t
      rename_i v d
      cases d with
      | list ds =>
        cases q with
        | lst h1 h2 => exact ⟨_, _, rfl, r1.fh.seq h1, p1 _ _ _ (After.refl r1.fh) (ite_ok h1 h2)⟩
      | _ => exact p1.elim
theorem di_enumq (hg : Gl X "enumerate") (hm : X.mg "enumerate" = none) (ha : DA X W [.q] [a] fs) (hs : starEach [a] X.env = [(false, eval a X.env)] := by rfl) : DI X (.Tuple elts kk tpos) W false (.Call (.Name "enumerate" p) [a] [] pos) (cal fs enu1) :=
  (pi_enum hg hm ha hs).wk fun σ H Q ⟨B, F, env, r, p⟩ => tA.bindI r p fun vs H1 F1 ds a1 r1 q1 p1 => by
    cases q1 with
    | cons q t =>
      cases t
      rename_i v d
      cases d with
      | list ds =>
        obtain ⟨a, vs, rfl, h1, h2⟩ := q.items (by intro z; cases z) r1.fh
        exact ⟨_, _, rfl, h1, p1 _ _ _ (After.refl r1.fh) (ite_ok h1 h2)⟩
      | _ => exact p1.elim
theorem di_rev (hg : Gl X "reversed") (hm : X.mg "reversed" = none) (ha : DA X W [.f] [a] fs) (hs : starEach [a] X.env = [(false, eval a X.env)] := by rfl) : DI X tg W true (.Call (.Name "reversed" p) [a] [] pos) (cal fs rev1) :=
  (pi_reversed hg hm ha hs).wk fun σ H Q ⟨B, F, env, r, p⟩ => tA.bindI r p fun vs H1 F1 ds a1 r1 q1 p1 => by
    cases q1 with
    | cons q t =>
      cases t
      rename_i v d
      cases d with
      | list ds =>
        cases q with
        | lst h1 h2 => exact ⟨_, _, rfl, r1.fh.seq h1, p1 _ _ _ (After.refl r1.fh) (itv_ok h1 h2)⟩
      | _ => exact p1.elim
theorem di_zip (hg : Gl X "zip") (hm : X.mg "zip" = none) (ha : DA X W [.f, .f] [a, b] fs) (hs : starEach [a, b] X.env = (false, eval a X.env) :: starEach [b] X.env := by rfl) (hpl : (backTo pos (starEach [b] X.env)).any (·.1) = false := by rfl) :
    DI X (.Tuple elts kk tpos) W true (.Call (.Name "zip" p) [a, b] [] pos) (cal fs zip2) :=
  (pi_zip hg hm ha hs hpl).wk fun σ H Q ⟨B, F, env, r, p⟩ => tA.bindI r p fun vs H1 F1 ds a1 r1 q1 p1 => by
    cases q1 with
    | cons q t =>
      cases t with
      | cons q' t =>
        cases t
        rename_i v d v' d'
        cases d with
        | list ds =>
          cases d' with
          | list es =>
            cases q with
            | lst h1 h2 =>
              cases q' with
              | lst h3 h4 => exact ⟨_, _, _, _, rfl, r1.fh.seq h1, r1.fh.seq h3, p1 _ _ _ (After.refl r1.fh) (itz_ok h1 h2 h3 h4)⟩
          | _ => exact p1.elim
        | _ => exact p1.elim
end

/-! ### targets -/
/-- only the slots js are changed -/
def Eo (js : List Nat) (σ σ' : L2.St) : Prop := σ'.length = σ.length ∧ ∀ k, k ∉ js → σ'[k]? = σ[k]?
theorem Eo.trans {js ks : List Nat} {a b c : L2.St} (h : Eo js a b) (h' : Eo ks b c) : Eo (js ++ ks) a c :=
  ⟨h'.1.trans h.1, fun k hk => (h'.2 k fun z => hk (List.mem_append_right _ z)).trans (h.2 k fun z => hk (List.mem_append_left _ z))⟩
theorem wipe_get (σ : L2.St) (i : Nat) : ∀ vs : List Nat, (wipe σ vs)[i]? = if i ∈ vs ∧ i < σ.length then some none else σ[i]?
  | [] => by rw [if_neg (by simp)]; rfl
  | v :: vs => by
    unfold wipe
    rw [List.getElem?_set, wipe_length, wipe_get σ i vs]
    by_cases hv : v = i
    · subst hv
      by_cases hl : v < σ.length
      · simp [hl]
      · rw [if_pos rfl, if_neg hl, if_neg (fun z => hl z.2)]
        exact (List.getElem?_eq_none (by omega)).symm
    · rw [if_neg hv]
      have e : (i ∈ v :: vs) ↔ i ∈ vs := ⟨fun z => (List.mem_cons.mp z).elim (fun q => absurd q.symm hv) id, fun z => List.mem_cons_of_mem _ z⟩
      simp only [e]
theorem Eo.wipe {js vs : List Nat} {σ σ' : L2.St} (h : Eo js σ σ') (hs : ∀ j ∈ js, j ∈ vs) : L2.wipe σ' vs = L2.wipe σ vs := by
  apply List.ext_getElem?
  intro i
  rw [wipe_get, wipe_get, h.1]
  by_cases hi : i ∈ vs ∧ i < σ.length
  · rw [if_pos hi, if_pos hi]
  · rw [if_neg hi, if_neg hi]
    by_cases hv : i ∈ vs
    · have : ¬ i < σ.length := fun z => hi ⟨hv, z⟩
      rw [List.getElem?_eq_none (by rw [h.1]; omega), List.getElem?_eq_none (by omega)]
    · exact h.2 i fun z => hv (hs i z)
theorem Eo.set {i : Nat} {σ : L2.St} {x : Option V} : Eo [i] σ (σ.set i x) := ⟨by simp, fun k hk => by
  have : i ≠ k := fun e => hk (by simp [e])
  rw [List.getElem?_set_ne this]⟩
theorem wipe_wipe {σ : L2.St} {vs : List Nat} : wipe (wipe σ vs) vs = wipe σ vs := by
  apply List.ext_getElem?
  intro i
  rw [wipe_get, wipe_length, wipe_get]
  by_cases hi : i ∈ vs ∧ i < σ.length
  · rw [if_pos hi, if_pos hi]
  · rw [if_neg hi, if_neg hi]
def tG (K : PySem.W.Frag) (js : List Nat) (b : D → En → Option En) : TG := fun v σ H Q => ∃ B F env d env', Rel K B F H env σ ∧ Dp K F v d ∧ b d env = some env' ∧ ∀ σ', Eo js σ σ' → Rel K B F H env' σ' → Q σ' H
def tGs (K : PySem.W.Frag) (js : List Nat) (b : List D → En → Option En) : TGs := fun v σ H Q => ∃ B F env d env', Rel K B F H env σ ∧ DpAll K F v d ∧ b d env = some env' ∧ ∀ σ', Eo js σ σ' → Rel K B F H env' σ' → Q σ' H
def DG (X : Cx) (tg : Expr) (js : List Nat) (b : D → En → Option En) : Prop := PG X tg (tG X.K js b)
def DGs (X : Cx) (tg : List Expr) (js : List Nat) (b : List D → En → Option En) : Prop := PGs X tg (tGs X.K js b)
theorem _root_.L2.PG.wk {X : Cx} {e : Expr} {t t' : TG} (h : PG X e t) (k : ∀ v σ H Q, t' v σ H Q → t v σ H Q) : PG X e t' := ⟨fun pins s σ H v u Q I r q => h.run pins s σ H v u Q I r (k _ _ _ _ q)⟩
theorem _root_.L2.PGs.wk {X : Cx} {e : List Expr} {t t' : TGs} (h : PGs X e t) (k : ∀ v σ H Q, t' v σ H Q → t v σ H Q) : PGs X e t' := ⟨fun pins s σ H v u Q I r q => h.run pins s σ H v u Q I r (k _ _ _ _ q)⟩
section
variable {K : PySem.W.Frag} {B F H : Hp} {env : En} {σ : L2.St}
theorem Rel.set {i : Nat} {v : V} {s : Sl} {bs : List Addr} (r : Rel K B F H env σ) (h : OwS K F H v s bs) (n : bs.Nodup) (hb : ∀ a ∈ bs, B a = none) (hn : ∀ as, OwEn K F H σ env as → as.Nodup → (∀ a ∈ as, B a = none) → ∀ a ∈ bs, a ∉ as) :
    Rel K B F H (env.set i (some s)) (σ.set i (some v)) := by
  obtain ⟨as, h1, h2, h3⟩ := r.sl
  obtain ⟨cs, q1, q2, q3⟩ := OwEn.set h i h1 h2 n (hn as h1 h2 h3)
  exact ⟨r.bh, r.fh, cs, q1, q2, fun a ha => (q3 a ha).elim (h3 a) (hb a)⟩
theorem Rel.setF {i : Nat} {v : V} {d : D} (r : Rel K B F H env σ) (h : Dp K F v d) : Rel K B F H (env.set i (some (.v (.fr d)))) (σ.set i (some v)) :=
  r.set (.v (.fr h)) .nil (fun _ z => by cases z) fun _ _ _ _ _ z => by cases z
theorem Rel.drop {i : Nat} {x : Option V} (r : Rel K B F H env σ) : Rel K B F H (env.set i none) (σ.set i x) := by
  obtain ⟨as, h1, h2, h3⟩ := r.sl
  obtain ⟨cs, q1, q2, q3⟩ := OwEn.drop (x := x) i h1 h2
  exact ⟨r.bh, r.fh, cs, q1, q2, fun a ha => h3 a (q3 a ha)⟩
theorem OwEn.forget : ∀ {σ : L2.St} {env : En} {as : List Addr} (i : Nat), OwEn K F H σ env as → as.Nodup → ∃ cs, OwEn K F H σ (env.set i none) cs ∧ cs.Nodup ∧ ∀ a ∈ cs, a ∈ as
  | _, _, _, i, .nil, n => ⟨[], .nil, .nil, fun a ha => ha⟩
  | _, _, _, 0, .un t, n => ⟨_, .un t, n, fun a ha => ha⟩
  | _, _, _, i + 1, .un t, n => by
    obtain ⟨cs, h1, h2, h3⟩ := OwEn.forget i t n
    exact ⟨cs, .un h1, h2, h3⟩
  | _, _, _, 0, .so h t, n => ⟨_, .un t, (List.nodup_append.mp n).2.1, fun a ha => List.mem_append_right _ ha⟩
  | _, _, _, i + 1, .so h t, n => by
    have n' := List.nodup_append.mp n
    obtain ⟨cs, h1, h2, h3⟩ := OwEn.forget i t n'.2.1
    exact ⟨_, .so h h1, List.nodup_append.mpr ⟨n'.1, h2, fun a ha b hb e => n'.2.2 a ha b (h3 b hb) e⟩, fun a ha => (List.mem_append.mp ha).elim (List.mem_append_left _) fun z => List.mem_append_right _ (h3 a z)⟩
theorem Rel.forget {i : Nat} (r : Rel K B F H env σ) : Rel K B F H (env.set i none) σ := by
  obtain ⟨as, h1, h2, h3⟩ := r.sl
  obtain ⟨cs, q1, q2, q3⟩ := OwEn.forget i h1 h2
  exact ⟨r.bh, r.fh, cs, q1, q2, fun a ha => h3 a (q3 a ha)⟩
def wipeE (env : En) : List Nat → En
  | [] => env
  | v :: vs => (wipeE env vs).set v none
theorem Rel.wipe (r : Rel K B F H env σ) : ∀ vs : List Nat, Rel K B F H (wipeE env vs) (L2.wipe σ vs)
  | [] => r
  | v :: vs => (Rel.wipe r vs).drop
end
section
variable {X : Cx} {pos : Pos} {tg : Expr} {ts : List Expr}
def setN (i : Nat) (d : D) (env : En) : Option En := some (env.set i (some (.v (.fr d))))
theorem dg_name {x : Str} (i : Nat) (hN : X.N.Nodup) (hi : X.N[i]? = some x := by rfl) (hx : Loc X.env.scope x := by first | exact Or.inl rfl | exact Or.inr rfl) (hf : X.fn x = true ∨ X.env.scope.names.lookup x = some .local := by first | exact Or.inl rfl | exact Or.inr rfl) : DG X (.Name x pos) [i] (setN i) :=
  (pg_name hN hi hx hf).wk fun v σ H Q ⟨B, F, env, d, env', r, h, e, q⟩ => by
    cases e
    exact q _ Eo.set (r.setF h)
def nilG : List D → En → Option En
  | [], env => some env
  | _, _ => none
def consG (b : D → En → Option En) (c : List D → En → Option En) : List D → En → Option En
  | d :: ds, env => (b d env).bind fun env => c ds env
  | _, _ => none
theorem dg_nil : DGs X [] [] nilG := pgs_nil.wk fun v σ H Q ⟨B, F, env, d, env', r, h, e, q⟩ => by
  cases h with
  | nil => cases e; exact ⟨rfl, q σ ⟨rfl, fun _ _ => rfl⟩ r⟩
  | cons _ _ => cases e
theorem dg_cons {js ks : List Nat} {b : D → En → Option En} {c : List D → En → Option En} (hb : DG X tg js b) (hc : DGs X ts ks c) (hs : (assignEach (tg :: ts) X.env).map (·.2) = assign tg X.env :: (assignEach ts X.env).map (·.2) := by rfl) : DGs X (tg :: ts) (js ++ ks) (consG b c) :=
  (pgs_cons hb hc hs).wk fun v σ H Q ⟨B, F, env, d, env', r, h, e, q⟩ => by
    cases h with
    | nil => cases e
    | @cons v vs d ds h1 h2 =>
      simp only [consG] at e
      cases z : b d env with
      | none => rw [z] at e; cases e
      | some env1 =>
        rw [z] at e
        exact ⟨v, vs, rfl, B, F, env, d, env1, r, h1, z, fun σ1 e1 r1 => ⟨B, F, env1, ds, env', r1, h2, e, fun σ2 e2 r2 => q σ2 (e1.trans e2) r2⟩⟩
def tupG (n : Nat) (b : List D → En → Option En) : D → En → Option En
  | .tuple ds, env => if ds.length = n then b ds env else none
  | .list ds, env => if ds.length = n then b ds env else none
  | _, _ => none
theorem _root_.L2.PG.orr {X : Cx} {e : Expr} {t t' : TG} (h : PG X e t) (h' : PG X e t') : PG X e (fun v σ H Q => t v σ H Q ∨ t' v σ H Q) := ⟨fun pins s σ H v u Q I r q => q.elim (fun q => h.run pins s σ H v u Q I r q) fun q => h'.run pins s σ H v u Q I r q⟩
theorem dg_tup {es : List Expr} {k : Nat} {js : List Nat} {n : Nat} {b : List D → En → Option En} (hc : X.calm = true) (h : DGs X es js b)
    (hn : (assignEach es X.env).length = n := by rfl) (hst : (assignEach es X.env).findIdx? (·.1) = none := by rfl) : DG X (.Tuple es k pos) js (tupG n b) :=
  ((pg_tup hc h hn hst).orr (pg_lst hc h hn hst)).wk fun v σ H Q ⟨B, F, env, d, env', r, hd, e, q⟩ => by
    cases d with
    | tuple ds =>
      cases hd with
      | tup h1 h2 =>
        simp only [tupG] at e
        split at e
        · rename_i hl
          exact .inl ⟨_, _, rfl, SqT.same r.fh h1, h2.len.trans hl, B, F, env, ds, env', r, h2, e, q⟩
        · cases e
    | list ds =>
      cases hd with
      | lst h1 h2 =>
        simp only [tupG] at e
        split at e
        · rename_i hl
          exact .inr ⟨_, _, rfl, r.fh.seq h1, h2.len.trans hl, B, F, env, ds, env', r, h2, e, q⟩
        · cases e
    | _ => cases e
end
end DL
namespace DL
open PySem PySem.Spec PyProof.Rows L2
variable [Tabs]
abbrev never : WX := fun _ _ _ _ => False
def DTs (X : Cx) (W : WX) (ifs : List Expr) (t : En → R Bool) : Prop := PTs X ifs (tT X.K (ecOf X.mg) W t)
theorem _root_.L2.PTs.wk {X : Cx} {ifs : List Expr} {t t' : TT} (h : PTs X ifs t) (k : ∀ σ H Q, t' σ H Q → t σ H Q) : PTs X ifs t' := ⟨fun pins s σ H Q I q => h.run pins s σ H Q I (k _ _ _ q)⟩
def yesT : En → R Bool := fun _ => .ok true
theorem dts_nil {X : Cx} {W : WX} : DTs X W [] yesT := pts_nil.wk fun σ H Q ⟨B, F, env, r, p⟩ => p H F (After.refl r.fh)
theorem dts_one {X : Cx} {W : WX} {c : Expr} {t : En → R Bool} (h : DT X W c t) : DTs X W [c] t := pts_one h
def compF (b : D → En → Option En) (t : En → R Bool) (f : En → R S) (env : En) : List D → R (List S)
  | [] => .ok []
  | d :: ds => match b d env with
    | none => .no
    | some e => match t e with
      | .ok true => match f e with
        | .ok s => match compF b t f env ds with
          | .ok ss => .ok (s :: ss)
          | _ => .no
        | _ => .no
      | .ok false => compF b t f env ds
      | _ => .no
def compR (vs : List Nat) (g : En → R (List D)) (b : D → En → Option En) (t : En → R Bool) (f : En → R S) : En → R S := fun env => (g env).bind fun ds => if ds.length ≤ 1000000 then (match compF b t f (wipeE env vs) ds with
  | .ok ss => .ok (.ow ss)
  | _ => .no) else .no
theorem million : (1000000 : Nat) ≤ sizeLine := by rw [sizeLine_eq]; decide
section
variable {X : Cx} {W : WX} {k : Nat} {pos : Pos} {tg iter elt : Expr} {ifs : List Expr} {scope : Scope} {own : List (Str × Nat)} {st : Bool} {g : En → R (List D)} {js : List Nat} {b : D → En → Option En} {t : En → R Bool} {f : En → R S}
/-- what a list comprehension's rule asks -/
theorem comp_core {vs : List Nat} {K : PySem.W.Frag} {ec : Str → Value} (hj : ∀ j ∈ js, j ∈ vs) (σ : L2.St) (H : Hp) (Q : VK) (h : tO K ec W (compR vs g b t f) σ H Q) :
    tLc (tI K ec W st g) (tG K js b) (tT K ec never t) (tO K ec never f) vs σ H Q := by
  obtain ⟨B, F, env, r, p⟩ := h
  refine ⟨B, F, env, r, ?_⟩
  unfold compR at p
  cases e : g env with
  | er c => rw [e] at p; exact p
  | no => rw [e] at p; exact p
  | ok ds =>
    rw [e] at p
    replace p : PoO K ec W F H σ Q (if ds.length ≤ 1000000 then (match compF b t f (wipeE env vs) ds with | .ok ss => .ok (.ow ss) | _ => .no) else .no) := p
    split at p
    case isFalse => exact p.elim
    rename_i hlen
    cases e2 : compF b t f (wipeE env vs) ds with
    | er c => rw [e2] at p; exact p.elim
    | no => rw [e2] at p; exact p.elim
    | ok tot =>
    rw [e2] at p
    intro J H1 F1 a1 io L hL
    have r1 : Rel K B F1 H1 (wipeE env vs) (wipe σ vs) := (r.after a1).wipe _
    obtain ⟨go, stp, yld⟩ := io
    have sG : ∀ {Fc H' : Hp}, After F1 H1 Fc H' → Same (if st = true then F1 else H1) H' := fun {Fc H'} x => by
      cases st with
      | true => exact x.ff.trans x.fh
      | false => exact x.hh
    refine ⟨fun i m H2 => m = ds.length - i ∧ i ≤ ds.length ∧ ∃ Fc acc ss as rest, After F1 H1 Fc H2 ∧ Fc L = none ∧ H2 L = some (.lst acc) ∧ OwAll K Fc H2 acc ss as ∧ (L :: as).Nodup ∧ (∀ a ∈ as, H1 a = none) ∧ ss.length ≤ i ∧ compF b t f (wipeE env vs) (ds.drop i) = .ok rest ∧ tot = ss ++ rest,
      ⟨ds.length, by simp, Nat.zero_le _, F1, [], [], [], tot, After.newO a1.fh hL, a1.fh.free hL, upd_same, .nil, by simp, by simp, by simp, e2, rfl⟩, ?_⟩
    rintro i m H2 ⟨rfl, hi, Fc, acc, ss, as, rest, x, nL, eL, ow, nd, fr, hss, ec, et⟩
    by_cases hlt : i < ds.length
    · refine .inr ⟨go i H2 (sG x) hlt, fun H' => ∃ Fc acc ss as rest, After F1 H1 Fc H' ∧ Fc L = none ∧ H' L = some (.lst acc) ∧ OwAll K Fc H' acc ss as ∧ (L :: as).Nodup ∧ (∀ a ∈ as, H1 a = none) ∧ ss.length ≤ i + 1 ∧ compF b t f (wipeE env vs) (ds.drop (i + 1)) = .ok rest ∧ tot = ss ++ rest,
        fun H' h => ⟨ds.length - (i + 1), by omega, rfl, hlt, h⟩, fun v H' y => ?_⟩
      obtain ⟨d, F2, ed, x2, hd⟩ := yld i H2 Fc v H' (sG x) x.ff x.fh hlt y
      have eds : ds.drop i = d :: ds.drop (i + 1) := by
        rw [List.drop_eq_getElem_cons hlt]
        congr 1
        rw [List.getElem?_eq_getElem hlt] at ed
        exact Option.some.inj ed
      rw [eds] at ec
      simp only [compF] at ec
      cases e3 : b d (wipeE env vs) with
      | none => rw [e3] at ec; cases ec
      | some env1 =>
      rw [e3] at ec
      have keep : ∀ {G : Hp} {H4 : Hp}, After Fc H2 G H4 → G L = none ∧ H4 L = some (.lst acc) ∧ OwAll K G H4 acc ss as ∧ After F1 H1 G H4 := fun {G H4} z => by
        have k1 := z.keepO ⟨nL, _, eL, rfl⟩
        refine ⟨k1.1, k1.2.trans eL, ow.mono z.ff _ _ _ fun a ha => z.keepO ?_, x.trans z⟩
        exact ow.at _ _ _ a ha
      refine ⟨B, F2, wipeE env vs, d, env1, r1.after (x.trans x2), hd, e3, fun σ2 eo r2 => ⟨by rw [eo.wipe hj, wipe_wipe], ?_⟩⟩
      dsimp only at ec
      refine ⟨B, F2, env1, r2, ?_⟩
      cases e4 : t env1 with
      | er c => rw [e4] at ec; cases ec
      | no => rw [e4] at ec; cases ec
      | ok bb =>
      rw [e4] at ec
      intro H3 F3 x3
      cases bb with
      | false =>
        rw [if_neg Bool.false_ne_true]
        obtain ⟨k1, k2, k3, k4⟩ := keep (x2.trans x3)
        exact ⟨F3, acc, ss, as, rest, k4, k1, k2, k3, nd, fr, Nat.le_succ_of_le hss, ec, et⟩
      | true =>
        rw [if_pos rfl]
        dsimp only at ec
        refine ⟨B, F3, env1, r2.after x3, ?_⟩
        cases e5 : f env1 with
        | er c => rw [e5] at ec; cases ec
        | no => rw [e5] at ec; cases ec
        | ok s =>
        rw [e5] at ec
        dsimp only at ec
        cases e6 : compF b t f (wipeE env vs) (ds.drop (i + 1)) with
        | er c => rw [e6] at ec; cases ec
        | no => rw [e6] at ec; cases ec
        | ok rs =>
        rw [e6] at ec
        cases ec
        intro w H4 F4 bs x4 o4 n4 f4
        obtain ⟨k1, k2, k3, k4⟩ := keep ((x2.trans x3).trans x4)
        have hacc : acc.length = ss.length := ow.len
        refine ⟨acc, k2, by have := million; omega, ?_⟩
        have bnew : ∀ a ∈ bs, H2 a = none := fun a ha => (x2.trans x3).hh.free (f4 a ha)
        have neb : ∀ a ∈ bs, a ≠ L := fun a ha z => by rw [z] at ha; have := bnew L ha; rw [eL] at this; cases this
        have nea : ∀ a ∈ as, a ≠ L := fun a ha z => by rw [z] at ha; exact (List.nodup_cons.mp nd).1 ha
        have sU : After F1 H1 F4 (upd H4 L (.lst (acc ++ [w]))) := by
          exact ⟨k4.ff, k4.fh.updR _ _ k1, k4.hh.updR _ _ hL, k4.nw⟩
        have oa : OwAll K F4 (upd H4 L (.lst (acc ++ [w]))) (acc ++ [w]) (ss ++ [s]) (as ++ (bs ++ [])) := by
          refine OwAll.app (OwAll.mono (Same.refl _) _ _ _ k3 fun a ha => ⟨?_, upd_ne (nea a ha)⟩) (.cons (Ow.mono (Same.refl _) _ _ _ o4 fun a ha => ⟨?_, upd_ne (neb a ha)⟩) .nil)
          · exact (k3.at _ _ _ a ha).1
          · exact (o4.at _ _ _ a ha).1
        refine ⟨F4, acc ++ [w], ss ++ [s], as ++ (bs ++ []), rs, sU, k1, upd_same, oa, ?_, ?_, ?_, by first | exact e6 | rfl, ?_⟩
        · rw [List.append_nil]
          refine List.nodup_cons.mpr ⟨fun z => ?_, List.nodup_append.mpr ⟨(List.nodup_cons.mp nd).2, n4, fun a ha b hb e => ?_⟩⟩
          · rcases List.mem_append.mp z with z | z
            · exact nea L z rfl
            · exact neb L z rfl
          · subst e
            have h1 := bnew a hb
            obtain ⟨_, vs, h2, _⟩ := ow.at _ _ _ a ha
            rw [h1] at h2; cases h2
        · intro a ha
          rw [List.append_nil] at ha
          rcases List.mem_append.mp ha with z | z
          · exact fr a z
          · exact x.hh.free (bnew a z)
        · rw [List.length_append]; exact Nat.succ_le_succ hss
        · rw [et, List.append_assoc]; rfl
    · have e7 : i = ds.length := by omega
      refine .inl ⟨stp i H2 (sG x) (by omega), ?_⟩
      rw [e7, List.drop_length] at ec
      cases ec
      rw [List.append_nil] at et
      subst et
      exact p _ H2 Fc (L :: as) (a1.trans x) (.ow nL eL ow) nd fun a ha => by
        rcases List.mem_cons.mp ha with z | z
        · subst z; exact a1.hh.free hL
        · exact a1.hh.free (fr a z)
theorem do_comp (c : Cxt X W k) (hi : DI X tg W st iter g) (ok : BlkOk X.N X.env.scope scope own)
    (hg : ∀ (s : Shared) (H : Hp) (C : Addr) (cl : List (Str × Addr)) (fp : List Addr), DG (X.blk s H scope (compEnvC scope cl C X.env) fp) tg js b)
    (ht : ∀ (s : Shared) (H : Hp) (C : Addr) (cl : List (Str × Addr)) (fp : List Addr), DTs (X.blk s H scope (compEnvC scope cl C X.env) fp) never ifs t)
    (he : ∀ (s : Shared) (H : Hp) (C : Addr) (cl : List (Str × Addr)) (fp : List Addr), DO (X.blk s H scope (compEnvC scope cl C X.env) fp) never elt f)
    (hj : ∀ j ∈ js, j ∈ own.map (·.2) := by decide) (hs : ∀ x, foldedSetIterable iter X.env x = pure x := by intro _; rfl) :
    DO X W (.ListComp elt [⟨tg, iter, ifs, 0⟩] scope pos) (compR (own.map (·.2)) g b t f) :=
  (pe_lc (g := tG X.K js b) (tt := tT X.K (ecOf X.mg) never t) (te := tO X.K (ecOf X.mg) never f) c.calm c.nd hi ok hg ht he hs).wk fun σ H Q h => comp_core hj σ H Q h
/-- a block's context -/
theorem Cxt.blk (c : Cxt X W k) (s : Shared) (H : Hp) (scope : Scope) (e : Env) (fp : List Addr) : Cxt (X.blk s H scope e fp) never k := ⟨c.calm, c.nd, takes0, c.rm, c.gd, PassesOwn.never⟩
end
end DL
namespace DL
open PySem PySem.Spec PyProof.Rows L2
variable [Tabs]
/-- a statement's outcome -/
inductive SR where
  | nx (e : En) | rt (s : S) | bk (e : En) | ct (e : En) | er (c : Str) (e : En) | no
/-- what is shared grows by what is younger than the entry -/
structure AfterS (B F F' : Hp) : Prop where
  ff : Same F F'
  nw : ∀ a o, F' a = some o → F a = none → B a = none
theorem AfterS.refl {B F : Hp} : AfterS B F F := ⟨Same.refl _, fun a o e n => by rw [n] at e; cases e⟩
theorem AfterS.trans {B F F1 F2 : Hp} (x : AfterS B F F1) (y : AfterS B F1 F2) : AfterS B F F2 := ⟨x.ff.trans y.ff, fun a o e n => by
  cases q : F1 a with
  | some u => exact x.nw a u q n
  | none => exact y.nw a o e q⟩
theorem After.toS {B F H F' H' : Hp} (x : After F H F' H') (b : Same B H) : AfterS B F F' := ⟨x.ff, fun a o e n => b.free (x.nw a o e n)⟩
section
variable (K : PySem.W.Frag) (ec : Str → Value) (W : WX)
def PoS (B F : Hp) (D : Ends) : SR → Prop
  | .nx e => ∀ σ' H' F', AfterS B F F' → Rel K B F' H' e σ' → D.nx σ' H'
  | .bk e => ∀ σ' H' F', AfterS B F F' → Rel K B F' H' e σ' → D.bk σ' H'
  | .ct e => ∀ σ' H' F', AfterS B F F' → Rel K B F' H' e σ' → D.ct σ' H'
  | .er c e => ∀ σ' H' F', AfterS B F F' → Rel K B F' H' e σ' → W (ec c) none σ' H'
  | .rt s => ∀ v H' F' as, AfterS B F F' → Same B H' → Same F' H' → Ow K F' H' v s as → as.Nodup → (∀ a ∈ as, B a = none) → D.rt v H'
  | .no => False
def tS (T : En → SR) : TS := fun D σ H => ∃ B F env, Rel K B F H env σ ∧ PoS K ec W B F D (T env)
end
def DS (X : Cx) (W : WX) (st : Stmt) (T : En → SR) : Prop := PS X st (tS X.K (ecOf X.mg) W T)
def DSs (X : Cx) (W : WX) (sts : List Stmt) (T : En → SR) : Prop := PSs X sts (tS X.K (ecOf X.mg) W T)
theorem _root_.L2.PS.wk {X : Cx} {st : Stmt} {t t' : TS} (h : PS X st t) (k : ∀ D σ H, t' D σ H → t D σ H) : PS X st t' := ⟨fun pins s σ H D I q => h.run pins s σ H D I (k _ _ _ q)⟩
theorem _root_.L2.PSs.wk {X : Cx} {st : List Stmt} {t t' : TS} (h : PSs X st t) (k : ∀ D σ H, t' D σ H → t D σ H) : PSs X st t' := ⟨fun pins s σ H D I q => h.run pins s σ H D I (k _ _ _ q)⟩
def SR.sq (r : SR) (k : En → SR) : SR := match r with
  | .nx e => k e
  | .rt s => .rt s
  | .bk e => .bk e
  | .ct e => .ct e
  | .er c e => .er c e
  | .no => .no
def R.st {A : Type} (r : R A) (env : En) (k : A → SR) : SR := match r with
  | .ok a => k a
  | .er c => .er c env
  | .no => .no
section
variable {K : PySem.W.Frag} {ec : Str → Value} {W : WX} {B F F' H : Hp} {D : Ends} {env : En} {σ : L2.St} {m : Md}
theorem PoS.after {r : SR} (p : PoS K ec W B F D r) (x : AfterS B F F') : PoS K ec W B F' D r := by
  cases r with
  | no => exact p
  | rt s => exact fun v H2 F2 as a => p v H2 F2 as (x.trans a)
  | nx e => exact fun σ2 H2 F2 a => p σ2 H2 F2 (x.trans a)
  | bk e => exact fun σ2 H2 F2 a => p σ2 H2 F2 (x.trans a)
  | ct e => exact fun σ2 H2 F2 a => p σ2 H2 F2 (x.trans a)
  | er c e => exact fun σ2 H2 F2 a => p σ2 H2 F2 (x.trans a)
/-- an expression within a statement -/
theorem tD.st {f : En → R DL.D} {k : DL.D → SR} (r : Rel K B F H env σ) (p : PoS K ec W B F D ((f env).st env k)) {Q : VK}
    (h : ∀ v H' F' d, After F H F' H' → Rel K B F' H' env σ → Rp K m F' H' v d → PoS K ec W B F' D (k d) → Q v H') : tD K ec W m f σ H Q := by
  refine ⟨B, F, env, r, ?_⟩
  cases e : f env with
  | ok d => rw [e] at p; exact fun v H' F' a q => h v H' F' d a (r.after a) q (PoS.after (r := k d) p (a.toS r.bh))
  | er c => rw [e] at p; exact fun H' F' a => p σ H' F' (a.toS r.bh) (r.after a)
  | no => rw [e] at p; exact p
theorem tO.st {f : En → R S} {k : S → SR} (r : Rel K B F H env σ) (p : PoS K ec W B F D ((f env).st env k)) {Q : VK}
    (h : ∀ v H' F' s as, After F H F' H' → Rel K B F' H' env σ → Ow K F' H' v s as → as.Nodup → (∀ a ∈ as, H a = none) → PoS K ec W B F' D (k s) → Q v H') : tO K ec W f σ H Q := by
  refine ⟨B, F, env, r, ?_⟩
  cases e : f env with
  | ok d => rw [e] at p; exact fun v H' F' as a o n fr => h v H' F' d as a (r.after a) o n fr (PoS.after (r := k d) p (a.toS r.bh))
  | er c => rw [e] at p; exact fun H' F' a => p σ H' F' (a.toS r.bh) (r.after a)
  | no => rw [e] at p; exact p
theorem tT.st {f : En → R Bool} {k : Bool → SR} (r : Rel K B F H env σ) (p : PoS K ec W B F D ((f env).st env k)) {Q : Bool → Hp → Prop}
    (h : ∀ b H' F', After F H F' H' → Rel K B F' H' env σ → PoS K ec W B F' D (k b) → Q b H') : tT K ec W f σ H Q := by
  refine ⟨B, F, env, r, ?_⟩
  cases e : f env with
  | ok d => rw [e] at p; exact fun H' F' a => h d H' F' a (r.after a) (PoS.after (r := k d) p (a.toS r.bh))
  | er c => rw [e] at p; exact fun H' F' a => p σ H' F' (a.toS r.bh) (r.after a)
  | no => rw [e] at p; exact p
theorem tI.st {sb : Bool} {f : En → R (List DL.D)} {k : List DL.D → SR} (r : Rel K B F H env σ) (p : PoS K ec W B F D ((f env).st env k)) {Q : It → Hp → Prop}
    (h : ∀ J H' F' ds, After F H F' H' → Rel K B F' H' env σ → ItOk K (if sb then F' else H') J F' ds → PoS K ec W B F' D (k ds) → Q J H') : tI K ec W sb f σ H Q := by
  refine ⟨B, F, env, r, ?_⟩
  cases e : f env with
  | ok d => rw [e] at p; exact fun J H' F' a q => h J H' F' d a (r.after a) q (PoS.after (r := k d) p (a.toS r.bh))
  | er c => rw [e] at p; exact fun H' F' a => p σ H' F' (a.toS r.bh) (r.after a)
  | no => rw [e] at p; exact p
end
section
variable {X : Cx} {W : WX} {k : Nat} {m : Md} {pos pos' : Pos} {e c tg iter : Expr} {f : En → R D} {fo : En → R S} {t : En → R Bool} {st : Stmt} {sts body : List Stmt} {T U : En → SR}
def nxS : En → SR := fun env => .nx env
def sqS (T U : En → SR) : En → SR := fun env => (T env).sq U
theorem dss_nil : DSs X W [] nxS := pss_nil.wk fun D σ H ⟨B, F, env, r, p⟩ => p σ H F AfterS.refl r
theorem dss_cons (h1 : DS X W st T) (h2 : DSs X W sts U) : DSs X W (st :: sts) (sqS T U) := (pss_cons h1 h2).wk fun D σ H ⟨B, F, env, r, p⟩ => by
  refine ⟨B, F, env, r, ?_⟩
  unfold sqS SR.sq at p
  cases e : T env with
  | nx e1 => rw [e] at p; exact fun σ2 H2 F2 a r2 => ⟨B, F2, e1, r2, PoS.after (r := U e1) p a⟩
  | rt s => rw [e] at p; exact p
  | bk s => rw [e] at p; exact p
  | ct s => rw [e] at p; exact p
  | er c s => rw [e] at p; exact p
  | no => rw [e] at p; exact p
theorem dss_one (h1 : DS X W st T) : DSs X W [st] T := pss_one h1
theorem ds_pass : DS X W (.Pass pos) nxS := ps_pass.wk fun D σ H ⟨B, F, env, r, p⟩ => p σ H F AfterS.refl r
theorem ds_break : DS X W (.Break pos) (fun env => .bk env) := ps_break.wk fun D σ H ⟨B, F, env, r, p⟩ => p σ H F AfterS.refl r
theorem ds_cont : DS X W (.Continue pos) (fun env => .ct env) := ps_continue.wk fun D σ H ⟨B, F, env, r, p⟩ => p σ H F AfterS.refl r
theorem ds_doc {x : Str} {j : Nat} : DS X W (.Expr (.Constant (.str x) j pos) pos') nxS := ps_doc.wk fun D σ H ⟨B, F, env, r, p⟩ => p σ H F AfterS.refl r
def exS (f : En → R D) : En → SR := fun env => (f env).st env fun _ => .nx env
theorem ds_expr (he : DE X W m e f) (hs : swapsWith e none pos.line X.env = pure false := by rfl) : DS X W (.Expr e pos) (exS f) :=
  (ps_expr he hs).wk fun D σ H ⟨B, F, env, r, p⟩ => tD.st r p fun v H1 F1 d a r1 q p1 => p1 σ H1 F1 AfterS.refl r1
def rtS (f : En → R D) : En → SR := fun env => (f env).st env fun d => .rt (.fr d)
theorem ds_ret (he : DE X W .f e f) : DS X W (.Return (some e) pos) (rtS f) :=
  (ps_ret he).wk fun D σ H ⟨B, F, env, r, p⟩ => tD.st r p fun v H1 F1 d a r1 q p1 => p1 v H1 F1 [] AfterS.refl r1.bh r1.fh (.fr q) .nil fun _ h => by cases h
def rtO (f : En → R S) : En → SR := fun env => (f env).st env fun s => .rt s
theorem ds_retO (he : DO X W e fo) : DS X W (.Return (some e) pos) (rtO fo) :=
  (ps_ret he).wk fun D σ H ⟨B, F, env, r, p⟩ => tO.st r p fun v H1 F1 s as a r1 o n fr p1 => p1 v H1 F1 as AfterS.refl r1.bh r1.fh o n fun b hb => r.bh.free (fr b hb)
theorem ds_retN : DS X W (.Return none pos) (fun _ => .rt (.fr .none)) := ps_retN.wk fun D σ H ⟨B, F, env, r, p⟩ => p .non H F [] AfterS.refl r.bh r.fh (.fr .non) .nil fun _ h => by cases h
/-- a slot's own value is handed out -/
def rtV (i : Nat) : En → SR := fun env => match env[i]? with
  | some (some (.v s)) => .rt s
  | _ => .no
theorem ds_retV {x : Str} (i : Nat) (hN : X.N[i]? = some x := by rfl) (hv : Vis X.env.scope x := by first | exact Or.inl rfl | exact Or.inr (Or.inl rfl) | exact Or.inr (Or.inr rfl)) (hd : (x == ("__debug__" : Str)) = false := by decide)
    (hcd : (x == ("__classdict__" : Str)) = false := by decide) : DS X W (.Return (some (.Name x pos')) pos) (rtV i) :=
  (ps_ret (pe_var hN hv hd hcd)).wk fun D σ H ⟨B, F, env, r, p⟩ => by
    unfold rtV at p
    split at p
    · rename_i s e
      obtain ⟨as, h1, h2, h3⟩ := r.sl
      obtain ⟨v, bs, q1, q2, q3⟩ := h1.get e
      cases q2 with
      | v q2 => exact ⟨v, q1, p v H F bs AfterS.refl r.bh r.fh q2 (h2.sublist q3) fun b hb => h3 b (q3.subset hb)⟩
    · exact p.elim
def ifS (t : En → R Bool) (T U : En → SR) : En → SR := fun env => (t env).st env fun b => match b with
  | true => T env
  | false => U env
theorem ds_if {a b : List Stmt} (hc : DT X W c t) (ha : DSs X W a T) (hb : DSs X W b U) : DS X W (.If c a b pos) (ifS t T U) :=
  (ps_if hc ha hb).wk fun D σ H ⟨B, F, env, r, p⟩ => tT.st r p fun b H1 F1 a r1 p1 => by
    cases b with
    | true => rw [if_pos rfl]; exact ⟨B, F1, env, r1, p1⟩
    | false => rw [if_neg Bool.false_ne_true]; exact ⟨B, F1, env, r1, p1⟩
/-! assignments -/
def asS (i : Nat) (f : En → R D) : En → SR := fun env => (f env).st env fun d => .nx (env.set i (some (.v (.fr d))))
def asO (i : Nat) (f : En → R S) : En → SR := fun env => (f env).st env fun s => .nx (env.set i (some (.v s)))
theorem Rel.afterSet {K : PySem.W.Frag} {B F H F' H' : Hp} {env : En} {σ : L2.St} {i : Nat} {v : V} {s : S} {bs : List Addr} (r : Rel K B F H env σ) (x : After F H F' H') (o : Ow K F' H' v s bs) (n : bs.Nodup) (fr : ∀ a ∈ bs, H a = none) :
    Rel K B F' H' (env.set i (some (.v s))) (σ.set i (some v)) := by
  obtain ⟨as, h1, h2, h3⟩ := r.sl
  have h4 : OwEn K F' H' σ env as := h1.mono x.ff fun a ha => x.keepO (h1.at a ha)
  obtain ⟨cs, q1, q2, q3⟩ := OwEn.set (.v o) i h4 h2 n fun a ha hm => by
    obtain ⟨_, u, e, _⟩ := h1.at a hm
    rw [fr a ha] at e; cases e
  exact ⟨r.bh.trans x.hh, x.fh, cs, q1, q2, fun a ha => (q3 a ha).elim (h3 a) fun z => r.bh.free (fr a z)⟩
theorem ds_set {x : Str} (i : Nat) (nd : X.N.Nodup) (he : DE X W .f e f) (hi : X.N[i]? = some x := by rfl) (hx : Loc X.env.scope x := by first | exact Or.inl rfl | exact Or.inr rfl) (hs : swapsWith e (some (.Name x pos')) pos.line X.env = pure false := by rfl)
    (hf : X.fn x = true ∨ X.env.scope.names.lookup x = some .local := by first | exact Or.inl rfl | exact Or.inr rfl) : DS X W (.Assign [.Name x pos'] e pos) (asS i f) :=
  (ps_set nd hi hx he hs hf).wk fun D σ H ⟨B, F, env, r, p⟩ => tD.st r p fun v H1 F1 d a r1 q p1 => p1 _ H1 F1 AfterS.refl (r1.setF q)
theorem ds_setO {x : Str} (i : Nat) (nd : X.N.Nodup) (he : DO X W e fo) (hi : X.N[i]? = some x := by rfl) (hx : Loc X.env.scope x := by first | exact Or.inl rfl | exact Or.inr rfl) (hs : swapsWith e (some (.Name x pos')) pos.line X.env = pure false := by rfl)
    (hf : X.fn x = true ∨ X.env.scope.names.lookup x = some .local := by first | exact Or.inl rfl | exact Or.inr rfl) : DS X W (.Assign [.Name x pos'] e pos) (asO i fo) :=
  (ps_set nd hi hx he hs hf).wk fun D σ H ⟨B, F, env, r, p⟩ => tO.st r p fun v H1 F1 s as a r1 o n fr p1 => p1 _ H1 F1 AfterS.refl (r.afterSet a o n fr)
/-- name = [..], on one line, the name a local of the def -/
theorem ds_setC {y : Str} {py spos : Pos} {elt : Expr} {ifs : List Expr} {scope : Scope} {own : List (Str × Nat)} {sb : Bool} {g : En → R (List D)} {js : List Nat} {b : D → En → Option En} {tt : En → R Bool} (i : Nat) (c : Cxt X W k) (hi : DI X tg W sb iter g) (ok : BlkOk X.N X.env.scope scope own)
    (hg : ∀ (s : Shared) (H : Hp) (C : Addr) (cl : List (Str × Addr)) (fp : List Addr), DG (X.blk s H scope (compEnvC scope cl C X.env) fp) tg js b)
    (ht : ∀ (s : Shared) (H : Hp) (C : Addr) (cl : List (Str × Addr)) (fp : List Addr), DTs (X.blk s H scope (compEnvC scope cl C X.env) fp) never ifs tt)
    (he : ∀ (s : Shared) (H : Hp) (C : Addr) (cl : List (Str × Addr)) (fp : List Addr), DO (X.blk s H scope (compEnvC scope cl C X.env) fp) never elt fo)
    (hy : X.N[i]? = some y := by rfl) (hyl : X.env.scope.names.lookup y = some .local := by rfl) (hsw : swapsWith (.ListComp elt [⟨tg, iter, ifs, 0⟩] scope pos) (some (.Name y py)) spos.line X.env = pure true := by exact sw_true rfl rfl rfl (by decide +kernel))
    (hj : ∀ j ∈ js, j ∈ own.map (·.2) := by decide) (hs : ∀ x, foldedSetIterable iter X.env x = pure x := by intro _; rfl) :
    DS X W (.Assign [.Name y py] (.ListComp elt [⟨tg, iter, ifs, 0⟩] scope pos) spos) (asO i (compR (own.map (·.2)) g b tt fo)) :=
  (ps_setLc (g := tG X.K js b) (tt := tT X.K (ecOf X.mg) never tt) (te := tO X.K (ecOf X.mg) never fo) c.calm c.nd hy hyl hsw hi ok hg ht he hs).wk fun D σ H ⟨B, F, env, r, p⟩ =>
    comp_core hj σ H _ (tO.st r p fun v H1 F1 s as a r1 o n fr p1 => p1 _ H1 F1 AfterS.refl (r.afterSet a o n fr))
/-- .. shared at once -/
theorem ds_setCF {y : Str} {py spos : Pos} {elt : Expr} {ifs : List Expr} {scope : Scope} {own : List (Str × Nat)} {sb : Bool} {g : En → R (List D)} {js : List Nat} {b : D → En → Option En} {tt : En → R Bool} (i : Nat) (c : Cxt X W k) (hi : DI X tg W sb iter g) (ok : BlkOk X.N X.env.scope scope own)
    (hg : ∀ (s : Shared) (H : Hp) (C : Addr) (cl : List (Str × Addr)) (fp : List Addr), DG (X.blk s H scope (compEnvC scope cl C X.env) fp) tg js b)
    (ht : ∀ (s : Shared) (H : Hp) (C : Addr) (cl : List (Str × Addr)) (fp : List Addr), DTs (X.blk s H scope (compEnvC scope cl C X.env) fp) never ifs tt)
    (he : ∀ (s : Shared) (H : Hp) (C : Addr) (cl : List (Str × Addr)) (fp : List Addr), DO (X.blk s H scope (compEnvC scope cl C X.env) fp) never elt fo)
    (hy : X.N[i]? = some y := by rfl) (hyl : X.env.scope.names.lookup y = some .local := by rfl) (hsw : swapsWith (.ListComp elt [⟨tg, iter, ifs, 0⟩] scope pos) (some (.Name y py)) spos.line X.env = pure true := by exact sw_true rfl rfl rfl (by decide +kernel))
    (hj : ∀ j ∈ js, j ∈ own.map (·.2) := by decide) (hs : ∀ x, foldedSetIterable iter X.env x = pure x := by intro _; rfl) :
    DS X W (.Assign [.Name y py] (.ListComp elt [⟨tg, iter, ifs, 0⟩] scope pos) spos) (asS i (unO (compR (own.map (·.2)) g b tt fo))) :=
  (ps_setLc (g := tG X.K js b) (tt := tT X.K (ecOf X.mg) never tt) (te := tO X.K (ecOf X.mg) never fo) c.calm c.nd hy hyl hsw hi ok hg ht he hs).wk fun D σ H ⟨B, F, env, r, p⟩ =>
    comp_core hj σ H _ (tO.ofD (tD.st r p fun v H1 F1 d a r1 q p1 => p1 _ H1 F1 AfterS.refl (r1.setF q)))
/-- a tuple's parts, stored -/
def asG (b : D → En → Option En) (f : En → R D) : En → SR := fun env => (f env).st env fun d => match b d env with
  | some e => .nx e
  | none => .no
theorem ds_asg {js : List Nat} {b : D → En → Option En} (he : DE X W .f e f) (hg : DG X tg js b) (hs : swapsWithSole [tg] e pos.line X.env = pure false := by rfl) (hw : swappedStores [tg] e X.env = pure none := by rfl)
    (h1 : (assignEach [tg] X.env).map (·.2) = [assign tg X.env] := by rfl) : DS X W (.Assign [tg] e pos) (asG b f) :=
  (ps_asg he hg hs hw h1).wk fun D σ H ⟨B, F, env, r, p⟩ => tD.st r p fun v H1 F1 d a r1 q p1 => by
    cases z : b d env with
    | none => rw [z] at p1; exact p1.elim
    | some e1 => rw [z] at p1; exact ⟨B, F1, env, d, e1, r1, q, z, fun σ2 _ r2 => p1 σ2 H1 F1 AfterS.refl r2⟩
def parS (i j : Nat) (fs : En → R (List D)) : En → SR := fun env => (fs env).st env fun ds => match ds with
  | [d, d'] => .nx ((env.set i (some (.v (.fr d)))).set j (some (.v (.fr d'))))
  | _ => .no
theorem ds_par {x y : Str} {px py pt pt2 : Pos} {kt k2 : Nat} {a b : Expr} {fs : En → R (List D)} (i j : Nat) (cx : Cxt X W k) (ha : DA X W [.f, .f] [a, b] fs) (hi : X.N[i]? = some x := by rfl) (hj : X.N[j]? = some y := by rfl) (hij : i ≠ j := by decide) (hx : X.env.scope.names.lookup x = some .local := by rfl)
    (hy : X.env.scope.names.lookup y = some .local := by rfl) (hw : swappedStores [.Tuple [.Name x px, .Name y py] kt pt] (.Tuple [a, b] k2 pt2) X.env = pure (some [x, y]) := by rfl) (hs : swapsWithSole [.Tuple [.Name x px, .Name y py] kt pt] (.Tuple [a, b] k2 pt2) pos.line X.env = pure false := by rfl) :
    DS X W (.Assign [.Tuple [.Name x px, .Name y py] kt pt] (.Tuple [a, b] k2 pt2) pos) (parS i j fs) :=
  (ps_par cx.calm cx.nd hi hj hij hx hy ha hw hs).wk fun D σ H ⟨B, F, env, r, p⟩ => by
    refine ⟨B, F, env, r, ?_⟩
    unfold parS at p
    cases e : fs env with
    | er c => rw [e] at p; exact fun H' F' a => p σ H' F' (a.toS r.bh) (r.after a)
    | no => rw [e] at p; exact p
    | ok ds =>
      rw [e] at p
      intro vs H' F' a q
      cases q with
      | cons q1 q => cases q with
        | cons q2 q => cases q with
          | nil => exact ⟨_, _, rfl, p _ H' F' (a.toS r.bh) (((r.after a).setF q1).setF q2)⟩
end
end DL
namespace DL
open PySem PySem.Spec PyProof.Rows L2
variable [Tabs]
/-! ### loops -/
def forF (b : D → En → Option En) (T : En → SR) : List D → En → SR
  | [], env => .nx env
  | d :: ds, env => match b d env with
    | none => .no
    | some e => match T e with
      | .nx e => forF b T ds e
      | .ct e => forF b T ds e
      | .bk e => .nx e
      | .rt s => .rt s
      | .er c e => .er c e
      | .no => .no
def forS (g : En → R (List D)) (b : D → En → Option En) (T : En → SR) : En → SR := fun env => (g env).st env fun ds => forF b T ds env
def whileF (t : En → R Bool) (T : En → SR) : Nat → En → SR
  | 0, _ => .no
  | n + 1, env => (t env).st env fun b => match b with
    | true => match T env with
      | .nx e => whileF t T n e
      | .ct e => whileF t T n e
      | .bk e => .nx e
      | .rt s => .rt s
      | .er c e => .er c e
      | .no => .no
    | false => .nx env
def whileS (fuel : En → Nat) (t : En → R Bool) (T : En → SR) : En → SR := fun env => whileF t T (fuel env) env
section
variable {X : Cx} {W : WX} {k : Nat} {m : Md} {pos pos' : Pos} {e c tg iter : Expr} {f : En → R D} {fo : En → R S} {t : En → R Bool} {st : Stmt} {sts body : List Stmt} {T U : En → SR}
theorem ds_for {g : En → R (List D)} {b : D → En → Option En} {js : List Nat} (cx : Cxt X W k) (hi : DI X tg W true iter g) (hg : DG X tg js b) (hb : DSs X W body T) (hs : ∀ x, foldedSetIterable iter X.env x = pure x := by intro _; rfl) : DS X W (.For tg iter body [] pos) (forS g b T) :=
  (ps_for cx.po cx.calm hi hg hb hs).wk fun D σ H ⟨B, F, env, r, p⟩ => tI.st r p fun J H1 F1 ds a r1 io p1 => by
    obtain ⟨go, stp, yld⟩ := io
    refine ⟨fun i m σ2 H2 => m = ds.length - i ∧ i ≤ ds.length ∧ ∃ F2 env2, AfterS B F1 F2 ∧ Rel X.K B F2 H2 env2 σ2 ∧ PoS X.K (ecOf X.mg) W B F2 D (forF b T (ds.drop i) env2), ⟨ds.length, by simp, Nat.zero_le _, F1, env, AfterS.refl, r1, p1⟩, ?_⟩
    rintro i m σ2 H2 ⟨rfl, hi, F2, env2, x, r2, p2⟩
    by_cases hlt : i < ds.length
    · refine .inr ⟨go i H2 (x.ff.trans r2.fh) hlt, fun σ' H' => ∃ F2 env2, AfterS B F1 F2 ∧ Rel X.K B F2 H' env2 σ' ∧ PoS X.K (ecOf X.mg) W B F2 D (forF b T (ds.drop (i + 1)) env2), fun σ' H' h => ⟨ds.length - (i + 1), by omega, rfl, hlt, h⟩, fun v H' y => ?_⟩
      obtain ⟨d, F3, ed, x3, hd⟩ := yld i H2 F2 v H' (x.ff.trans r2.fh) x.ff r2.fh hlt y
      have eds : ds.drop i = d :: ds.drop (i + 1) := by
        rw [List.drop_eq_getElem_cons hlt]
        congr 1
        rw [List.getElem?_eq_getElem hlt] at ed
        exact Option.some.inj ed
      have xs : AfterS B F2 F3 := x3.toS r2.bh
      rw [eds] at p2
      simp only [forF] at p2
      cases e3 : b d env2 with
      | none => rw [e3] at p2; exact p2.elim
      | some env3 =>
      rw [e3] at p2
      refine ⟨B, F3, env2, d, env3, r2.after x3, hd, e3, fun σ3 _ r3 => ⟨B, F3, env3, r3, ?_⟩⟩
      dsimp only at p2
      cases e4 : T env3 with
      | no => rw [e4] at p2; exact p2.elim
      | rt s => rw [e4] at p2; exact PoS.after (r := .rt s) p2 xs
      | bk e => rw [e4] at p2; exact PoS.after (r := .nx e) p2 xs
      | er c e => rw [e4] at p2; exact PoS.after (r := .er c e) p2 xs
      | nx e => rw [e4] at p2; exact fun σ4 H4 F4 a4 r4 => ⟨F4, e, (x.trans xs).trans a4, r4, PoS.after p2 (xs.trans a4)⟩
      | ct e => rw [e4] at p2; exact fun σ4 H4 F4 a4 r4 => ⟨F4, e, (x.trans xs).trans a4, r4, PoS.after p2 (xs.trans a4)⟩
    · have e7 : i = ds.length := by omega
      refine .inl ⟨stp i H2 (x.ff.trans r2.fh) (by omega), ?_⟩
      rw [e7, List.drop_length] at p2
      exact p2 σ2 H2 F2 AfterS.refl r2
theorem ds_while (fuel : En → Nat) (cx : Cxt X W k) (hc : DT X W c t) (hb : DSs X W body T) : DS X W (.While c body [] pos) (whileS fuel t T) :=
  (ps_while cx.po hc hb).wk fun D σ H ⟨B, F, env, r, p⟩ => by
    refine ⟨fun m σ2 H2 => ∃ F2 env2, AfterS B F F2 ∧ Rel X.K B F2 H2 env2 σ2 ∧ PoS X.K (ecOf X.mg) W B F2 D (whileF t T m env2), ⟨fuel env, F, env, AfterS.refl, r, p⟩, ?_⟩
    rintro m σ2 H2 ⟨F2, env2, x, r2, p2⟩
    cases m with
    | zero => exact p2.elim
    | succ n =>
      simp only [whileF] at p2
      refine tT.st r2 p2 fun b H3 F3 a r3 p3 => ?_
      have xs : AfterS B F2 F3 := a.toS r2.bh
      cases b with
      | false => rw [if_neg Bool.false_ne_true]; exact p3 σ2 H3 F3 AfterS.refl r3
      | true =>
        rw [if_pos rfl]
        refine ⟨fun σ' H' => ∃ F2 env2, AfterS B F F2 ∧ Rel X.K B F2 H' env2 σ' ∧ PoS X.K (ecOf X.mg) W B F2 D (whileF t T n env2), fun σ' H' h => ⟨n, Nat.lt_succ_self n, h⟩, B, F3, env2, r3, ?_⟩
        dsimp only at p3
        cases e4 : T env2 with
        | no => rw [e4] at p3; exact p3.elim
        | rt s => rw [e4] at p3; exact p3
        | bk e => rw [e4] at p3; exact p3
        | er c e => rw [e4] at p3; exact p3
        | nx e => rw [e4] at p3; exact fun σ4 H4 F4 a4 r4 => ⟨F4, e, (x.trans xs).trans a4, r4, PoS.after p3 a4⟩
        | ct e => rw [e4] at p3; exact fun σ4 H4 F4 a4 r4 => ⟨F4, e, (x.trans xs).trans a4, r4, PoS.after p3 a4⟩

/-! ### a slot's own list is changed -/
theorem Rel.mut {K : PySem.W.Frag} {B F H F' H' : Hp} {env : En} {σ : L2.St} {i : Nat} {ss : List S} (r : Rel K B F H env σ) (x : After F H F' H') (e : env[i]? = some (some (.v (.ow ss)))) :
    ∃ a vs bs, σ[i]? = some (some (.ref a)) ∧ F' a = none ∧ H' a = some (.lst vs) ∧ OwAll K F' H' vs ss bs ∧ a ∉ bs ∧ bs.Nodup ∧ (∀ b ∈ bs, ∃ o, H b = some o) ∧ (∃ o, H a = some o) ∧
      ∀ vs' ss' cs, OwAll K F' H' vs' ss' cs → a ∉ cs → cs.Nodup → (∀ b ∈ cs, b ∈ bs ∨ H b = none) → Rel K B F' (upd H' a (.lst vs')) (env.set i (some (.v (.ow ss')))) σ := by
  obtain ⟨as, h1, h2, h3⟩ := r.sl
  have h4 : OwEn K F' H' σ env as := h1.mono x.ff fun a ha => x.keepO (h1.at a ha)
  obtain ⟨a, vs, bs, q1, q2, q3, q4, q5, q6, q7, q8, q9⟩ := h4.mut h2 e
  refine ⟨a, vs, bs, q1, q2, q3, q4, q6, q7, fun b hb => let ⟨_, o, e, _⟩ := h1.at b (q8 b hb); ⟨o, e⟩, (let ⟨_, o, e, _⟩ := h1.at a q5; ⟨o, e⟩), fun vs' ss' cs w1 w2 w3 w4 => ?_⟩
  obtain ⟨ds, u1, u2, u3⟩ := q9 vs' ss' cs w1 w2 w3 fun b hb => (w4 b hb).imp id fun z hm => by
    obtain ⟨_, o, e, _⟩ := h1.at b hm
    rw [z] at e; cases e
  have rb := r.bh.trans x.hh
  have rf : Same F' H' := x.fh
  refine ⟨rb.updR _ _ (h3 a q5), rf.updR _ _ q2, ds, u1, u2, fun b hb => ?_⟩
  rcases u3 b hb with z | z
  · exact h3 b z
  · rcases w4 b z with w | w
    · exact h3 b (q8 b w)
    · exact r.bh.free w
/-- x.append(e), x a slot's own list -/
def apS (i : Nat) (f : En → R S) : En → SR := fun env => match env[i]? with
  | some (some (.v (.ow ss))) => (f env).st env fun s => if ss.length < 1000000 then .nx (env.set i (some (.v (.ow (ss ++ [s]))))) else .no
  | _ => .no
theorem tyV_lst {K : PySem.W.Frag} {H : Hp} {a : Addr} {xs : List V} (h : H a = some (.lst xs)) : tyV K "list" (.ref a) H := Or.inl ⟨rfl, _, Or.inl (Or.inl h)⟩
theorem ds_append {x : Str} {xp ap cp : Pos} (i : Nat) (he : DO X W e fo) (hN : X.N[i]? = some x := by rfl) (hv : Vis X.env.scope x := by first | exact Or.inl rfl | exact Or.inr (Or.inl rfl) | exact Or.inr (Or.inr rfl)) (hd : (x == ("__debug__" : Str)) = false := by decide)
    (hcd : (x == ("__classdict__" : Str)) = false := by decide) (hss : starEach [e] X.env = (false, eval e X.env) :: starEach [] X.env := by rfl)
    (hbase : attributeBase (.Name x xp) "append" X.env (eval (.Name x xp) X.env) = eval (.Name x xp) X.env := by rfl)
    (hfew : ((backTo cp (starEach [e] X.env)).all (fun x => !x.1) && (backToKw cp (keywordEach [] X.env)).all (fun x => x.1.isSome)
      && decide ([e].length + ([] : List Keyword).length + (if ([] : List Keyword).isEmpty then 0 else 1) < 30)) = true := by rfl)
    (hline : (ap.endLine == cp.line) = true := by rfl) (hplain : (backTo cp (starEach [] X.env)).any (·.1) = false := by rfl)
    (hs : swapsWith (.Call (.Attribute (.Name x xp) "append" ap) [e] [] cp) none pos.line X.env = pure false := by rfl) :
    DS X W (.Expr (.Call (.Attribute (.Name x xp) "append" ap) [e] [] cp) pos) (apS i fo) :=
  (ps_expr (pe_bm F.plainAttrs_list F.slot_list_append F.type_list_append mt_append (pe_var hN hv hd hcd) (pa_cons he pa_nil hss) hbase hfew hline hss hplain) hs).wk fun D σ H ⟨B, F, env, r, p⟩ => by
    unfold apS at p
    split at p
    · rename_i ss ee
      obtain ⟨a0, vs0, bs0, z1, z2, z3, _⟩ := r.mut (After.refl r.fh) ee
      refine ⟨.ref a0, z1, tyV_lst z3, ?_⟩
      refine tO.st r p fun v H1 F1 s as a r1 o n fr p1 => ?_
      obtain ⟨a1, vs, bs, q1, q2, q3, q4, q5, q6, q7, q8, q9⟩ := r.mut a ee
      have ea : a1 = a0 := by
        have := q1.symm.trans z1
        simpa using this
      subst ea
      replace p1 : PoS X.K (ecOf X.mg) W B F1 D (if ss.length < 1000000 then .nx (env.set i (some (.v (.ow (ss ++ [s]))))) else .no) := p1
      split at p1
      · rename_i hl
        have nas : ∀ b ∈ as, b ≠ a1 := fun b hb z => by
          obtain ⟨o', w⟩ := q8
          rw [← z, fr b hb] at w; cases w
        have nbs : ∀ b ∈ as, b ∉ bs := fun b hb z => by
          obtain ⟨o', w⟩ := q7 b z
          rw [fr b hb] at w; cases w
        refine ⟨a1, vs, v, rfl, rfl, q3, by have := q4.len; have := million; omega, ?_⟩
        refine p1 σ _ F1 AfterS.refl (q9 (vs ++ [v]) (ss ++ [s]) (bs ++ (as ++ [])) (OwAll.app q4 (.cons o .nil)) ?_ ?_ ?_)
        · intro z
          rw [List.append_nil] at z
          rcases List.mem_append.mp z with z | z
          · exact q5 z
          · exact nas a1 z rfl
        · rw [List.append_nil]
          exact List.nodup_append.mpr ⟨q6, n, fun x hx y hy z => nbs y hy (z ▸ hx)⟩
        · intro b hb
          rw [List.append_nil] at hb
          exact (List.mem_append.mp hb).imp id (fr b)
      · exact p1.elim
    · exact p.elim
end
end DL
namespace DL
open PySem PySem.Spec PyProof.Rows L2
variable [Tabs]
theorem OwAll.set {K : PySem.W.Frag} {F H : Hp} {v : V} {s : S} {cs : List Addr} (hv : Ow K F H v s cs) (nc : cs.Nodup) : ∀ {vs : List V} {ss : List S} {bs : List Addr} (n : Nat), OwAll K F H vs ss bs → bs.Nodup → (∀ b ∈ cs, b ∉ bs) →
    ∃ ds, OwAll K F H (vs.set n v) (ss.set n s) ds ∧ ds.Nodup ∧ ∀ b ∈ ds, b ∈ bs ∨ b ∈ cs
  | _, _, _, _, .nil, _, _ => ⟨[], .nil, .nil, fun b hb => by cases hb⟩
  | _, _, _, 0, .cons (bs := bs) a t, n, k => ⟨cs ++ bs, .cons hv t, List.nodup_append.mpr ⟨nc, (List.nodup_append.mp n).2.1, fun x hx y hy z => k x hx (List.mem_append_right _ (z ▸ hy))⟩, fun b hb => (List.mem_append.mp hb).elim .inr fun z => .inl (List.mem_append_right _ z)⟩
  | _, _, _, i + 1, .cons (as := as) a t, n, k => by
    have n' := List.nodup_append.mp n
    obtain ⟨ds, h1, h2, h3⟩ := OwAll.set hv nc i t n'.2.1 fun b hb z => k b hb (List.mem_append_right _ z)
    refine ⟨as ++ ds, .cons a h1, List.nodup_append.mpr ⟨n'.1, h2, fun x hx y hy z => ?_⟩, fun b hb => ?_⟩
    · subst z
      rcases h3 x hy with w | w
      · exact n'.2.2 x hx x w rfl
      · exact k x w (List.mem_append_left _ hx)
    · rcases List.mem_append.mp hb with z | z
      · exact .inl (List.mem_append_left _ z)
      · exact (h3 b z).imp (List.mem_append_right _) id
section
variable {X : Cx} {W : WX} {k : Nat} {m : Md} {pos pos' : Pos} {e c tg iter ei : Expr} {f fi : En → R D} {fo : En → R S} {t : En → R Bool} {st : Stmt} {sts body : List Stmt} {T U : En → SR}
/-- x[j] = e, x a slot's own list -/
def siS (i : Nat) (f : En → R S) (g : En → R D) : En → SR := fun env => (f env).st env fun s => match env[i]? with
  | some (some (.v (.ow ss))) => (g env).st env fun d => match d with
    | .int j => match ixN ss.length j with
      | some n => .nx (env.set i (some (.v (.ow (ss.set n s)))))
      | none => .no
    | _ => .no
  | _ => .no
theorem ds_setI {x : Str} {xp sp : Pos} (i : Nat) (he : DO X W e fo) (hi : DE X W .h ei fi) (hN : X.N[i]? = some x := by rfl) (hv : Vis X.env.scope x := by first | exact Or.inl rfl | exact Or.inr (Or.inl rfl) | exact Or.inr (Or.inr rfl)) (hd : (x == ("__debug__" : Str)) = false := by decide)
    (hcd : (x == ("__classdict__" : Str)) = false := by decide)
    (ha : ∀ v, assign (.Subscript (.Name x xp) ei sp) X.env v = (do
      let ov ← holding [v] (eval (.Name x xp) X.env)
      let iv ← holding [v, ov] (eval ei X.env)
      standAt sp
      holding [v, ov, iv] (setItem ov iv v)
      release [v, ov, iv] []) := by intro _; rfl)
    (hs : swapsWithSole [.Subscript (.Name x xp) ei sp] e pos.line X.env = pure false := by rfl) (hw : swappedStores [.Subscript (.Name x xp) ei sp] e X.env = pure none := by rfl)
    (h1 : (assignEach [.Subscript (.Name x xp) ei sp] X.env).map (·.2) = [assign (.Subscript (.Name x xp) ei sp) X.env] := by rfl) :
    DS X W (.Assign [.Subscript (.Name x xp) ei sp] e pos) (siS i fo fi) :=
  (ps_asg he (pg_sub (pe_var hN hv hd hcd) hi set_list ha) hs hw h1).wk fun D σ H ⟨B, F, env, r, p⟩ => tO.st r p fun v H1 F1 s as a r1 o n fr p1 => by
    cases ee : env[i]? with
    | none => rw [ee] at p1; exact p1.elim
    | some z => cases z with
      | none => rw [ee] at p1; exact p1.elim
      | some z => cases z with
        | m _ => rw [ee] at p1; exact p1.elim
        | xc _ => rw [ee] at p1; exact p1.elim
        | v z => cases z with
          | fr _ => rw [ee] at p1; exact p1.elim
          | tu _ => rw [ee] at p1; exact p1.elim
          | ow ss =>
    rw [ee] at p1
    obtain ⟨a0, vs0, bs0, z1, z2, z3, _⟩ := r.mut a ee
    refine ⟨.ref a0, z1, ?_⟩
    refine tD.st r1 p1 fun u H2 F2 d a2 r2 q p2 => ?_
    obtain ⟨a1, vs, bs, q1, q2, q3, q4, q5, q6, q7, q8, q9⟩ := r.mut (a.trans a2) ee
    have ea : a1 = a0 := by
      have := q1.symm.trans z1
      simpa using this
    subst ea
    cases d with
    | int j =>
      dsimp only at p2
      cases en : ixN ss.length j with
      | none => rw [en] at p2; exact p2.elim
      | some n1 =>
        rw [en] at p2
        have nas : ∀ b ∈ as, b ≠ a1 := fun b hb z => by
          obtain ⟨o', w⟩ := q8
          rw [← z, fr b hb] at w; cases w
        have nbs : ∀ b ∈ as, b ∉ bs := fun b hb z => by
          obtain ⟨o', w⟩ := q7 b z
          rw [fr b hb] at w; cases w
        have o2 : Ow X.K F2 H2 v s as := o.mono a2.ff _ _ _ fun b hb => a2.keepO (o.at _ _ _ b hb)
        obtain ⟨ds, w1, w2, w3⟩ := OwAll.set o2 n n1 q4 q6 nbs
        refine ⟨a1, vs, j, n1, rfl, q.intI, q3, by rw [q4.len]; exact en, ?_⟩
        refine p2 σ _ F2 AfterS.refl (q9 _ _ ds w1 (fun z => ?_) w2 fun b hb => (w3 b hb).imp id (fr b))
        rcases w3 a1 z with z | z
        · exact q5 z
        · exact nas a1 z rfl
    | _ => exact p2.elim
/-- y = x.pop(), x a slot's own list, its last item shared -/
def poS (i j : Nat) : En → SR := fun env => match env[i]? with
  | some (some (.v (.ow ss))) => match ss.getLast? with
    | some (.fr d) => .nx ((env.set i (some (.v (.ow ss.dropLast)))).set j (some (.v (.fr d))))
    | _ => .no
  | _ => .no
theorem OwAll.split {K : PySem.W.Frag} {F H : Hp} : ∀ {ss : List S} {vs : List V} {bs : List Addr} {s : S}, OwAll K F H vs ss bs → ss.getLast? = some s → bs.Nodup →
    ∃ v cs as, vs[vs.length - 1]? = some v ∧ Ow K F H v s cs ∧ OwAll K F H vs.dropLast ss.dropLast as ∧ as.Nodup ∧ ∀ b ∈ as, b ∈ bs
  | [], _, _, _, _, e, _ => by simp at e
  | [s], _, _, _, .cons a .nil, e, n => by
    simp at e; subst e
    exact ⟨_, _, [], rfl, a, .nil, .nil, fun b hb => by cases hb⟩
  | s :: s2 :: ss, _, _, _, .cons (as := as) a (.cons a2 t), e, n => by
    have n' := List.nodup_append.mp n
    obtain ⟨v, cs, ds, h1, h2, h3, h4, h5⟩ := OwAll.split (ss := s2 :: ss) (.cons a2 t) (by simpa [List.getLast?_cons_cons] using e) n'.2.1
    refine ⟨v, cs, as ++ ds, ?_, h2, by simpa [List.dropLast] using OwAll.cons a h3, List.nodup_append.mpr ⟨n'.1, h4, fun x hx y hy z => n'.2.2 x hx y (h5 y hy) z⟩, fun b hb => (List.mem_append.mp hb).elim (List.mem_append_left _) fun z => List.mem_append_right _ (h5 b z)⟩
    simpa using h1
theorem ds_pop {x y : Str} {xp ap cp yp : Pos} (i j : Nat) (nd : X.N.Nodup) (hN : X.N[i]? = some x := by rfl) (hv : Vis X.env.scope x := by first | exact Or.inl rfl | exact Or.inr (Or.inl rfl) | exact Or.inr (Or.inr rfl)) (hd : (x == ("__debug__" : Str)) = false := by decide)
    (hcd : (x == ("__classdict__" : Str)) = false := by decide) (hi : X.N[j]? = some y := by rfl) (hx : Loc X.env.scope y := by first | exact Or.inl rfl | exact Or.inr rfl)
    (hbase : attributeBase (.Name x xp) "pop" X.env (eval (.Name x xp) X.env) = eval (.Name x xp) X.env := by rfl) (hline : (ap.endLine == cp.line) = true := by rfl)
    (hs : swapsWith (.Call (.Attribute (.Name x xp) "pop" ap) [] [] cp) (some (.Name y yp)) pos.line X.env = pure false := by rfl) (hf : X.fn y = true ∨ X.env.scope.names.lookup y = some .local := by first | exact Or.inl rfl | exact Or.inr rfl) :
    DS X W (.Assign [.Name y yp] (.Call (.Attribute (.Name x xp) "pop" ap) [] [] cp) pos) (poS i j) :=
  (ps_set nd hi hx (pe_bm0 F.plainAttrs_list F.slot_list_pop F.type_list_pop mt_pop (pe_var hN hv hd hcd) hbase hline) hs hf).wk fun D σ H ⟨B, F, env, r, p⟩ => by
    unfold poS at p
    split at p
    · rename_i ss ee
      split at p
      · rename_i d el
        obtain ⟨a, vs, bs, q1, q2, q3, q4, q5, q6, q7, q8, q9⟩ := r.mut (After.refl r.fh) ee
        obtain ⟨v, cs, as, w1, w2, w3, w4, w5⟩ := q4.split el q6
        have r2 := q9 _ _ as w3 (fun z => q5 (w5 a z)) w4 fun b hb => .inl (w5 b hb)
        cases w2 with
        | fr w2 => exact ⟨.ref a, q1, tyV_lst q3, a, vs, v, rfl, rfl, q3, w1, p _ _ F AfterS.refl (r2.setF w2)⟩
      · exact p.elim
    · exact p.elim
def agS (i : Nat) (f : En → R D) : En → SR := fun env => match env[i]? with
  | some (some (.v (.fr (.int a)))) => (f env).st env fun d => match d with
    | .int b => .nx (env.set i (some (.v (.fr (.int (a + b))))))
    | _ => .no
  | _ => .no
theorem ds_addI {x : Str} (i : Nat) (nd : X.N.Nodup) (he : DE X W .f e f) (hi : X.N[i]? = some x := by rfl) (hx : Loc X.env.scope x := by first | exact Or.inl rfl | exact Or.inr rfl)
    (hf : X.fn x = true ∨ X.env.scope.names.lookup x = some .local := by first | exact Or.inl rfl | exact Or.inr rfl) : DS X W (.AugAssign (.Name x pos') .Add e pos) (agS i f) :=
  (ps_aug nd hi hx he ip_add hf).wk fun D σ H ⟨B, F, env, r, p⟩ => by
    unfold agS at p
    split at p
    · rename_i a ee
      obtain ⟨as, h1, _, _⟩ := r.sl
      obtain ⟨v, bs, q1, q2, _⟩ := h1.get ee
      cases q2 with
      | v q2 => cases q2 with
        | fr q2 =>
          cases q2
          refine ⟨_, q1, tD.st r p fun u H1 F1 d a1 r1 q p1 => ?_⟩
          cases d with
          | int b =>
            cases q
            exact ⟨_, _, rfl, rfl, p1 _ H1 F1 AfterS.refl (r1.setF (.int _))⟩
          | _ => exact p1.elim
    · exact p.elim

/-! ### more is forgotten, more is shared: no code -/
def fgE (env : En) : List Nat → En
  | [] => env
  | i :: is => (fgE env is).set i none
theorem Rel.forgets {K : PySem.W.Frag} {B F H : Hp} {env : En} {σ : L2.St} (r : Rel K B F H env σ) : ∀ is : List Nat, Rel K B F H (fgE env is) σ
  | [] => r
  | i :: is => (Rel.forgets r is).forget
def fgS (is : List Nat) (T : En → SR) : En → SR := fun env => T (fgE env is)
theorem ds_forget (is : List Nat) (h : DS X W st T) : DS X W st (fgS is T) := h.wk fun D σ H ⟨B, F, env, r, p⟩ => ⟨B, F, fgE env is, r.forgets is, p⟩
theorem dss_forget (is : List Nat) (h : DSs X W sts T) : DSs X W sts (fgS is T) := h.wk fun D σ H ⟨B, F, env, r, p⟩ => ⟨B, F, fgE env is, r.forgets is, p⟩
def fzE (env : En) (i : Nat) : En := match env[i]? with
  | some (some (.v s)) => env.set i (some (.v (.fr s.toD)))
  | _ => env
theorem OwEn.share {K : PySem.W.Frag} {F H : Hp} {v : V} : ∀ {σ : L2.St} {env : En} {as : List Addr} {i : Nat} {s : Sl} {bs : List Addr}, OwEn K F H σ env as → as.Nodup → env[i]? = some (some s) → σ[i]? = some (some v) → OwS K F H v s bs →
    ∃ cs ds, OwEn K F H σ (env.set i none) cs ∧ OwS K F H v s ds ∧ cs.Nodup ∧ (∀ b ∈ cs, b ∈ as) ∧ (∀ b ∈ ds, b ∈ as) ∧ ∀ b ∈ ds, b ∉ cs
  | _, _, _, _, _, _, .nil, _, e, _, _ => by simp at e
  | _, _, _, 0, _, _, .un t, _, e, _, _ => by simp at e
  | _, _, _, i + 1, _, _, .un t, n, e, f, o => by
    obtain ⟨cs, ds, h1, h2, h3, h4, h5, h6⟩ := OwEn.share (i := i) t n (by simpa using e) (by simpa using f) o
    exact ⟨cs, ds, .un h1, h2, h3, h4, h5, h6⟩
  | _, _, _, 0, _, _, .so (bs := bs) (as := as) h t, n, e, f, o => by
    simp at e f; subst e; subst f
    have n' := List.nodup_append.mp n
    exact ⟨as, bs, .un t, h, n'.2.1, fun b hb => List.mem_append_right _ hb, fun b hb => List.mem_append_left _ hb, fun b hb z => n'.2.2 b hb b z rfl⟩
  | _, _, _, i + 1, _, _, .so (bs := hs) h t, n, e, f, o => by
    have n' := List.nodup_append.mp n
    obtain ⟨cs, ds, h1, h2, h3, h4, h5, h6⟩ := OwEn.share (i := i) t n'.2.1 (by simpa using e) (by simpa using f) o
    refine ⟨hs ++ cs, ds, .so h h1, h2, List.nodup_append.mpr ⟨n'.1, h3, fun x hx y hy z => n'.2.2 x hx y (h4 y hy) z⟩, fun b hb => (List.mem_append.mp hb).elim (List.mem_append_left _) fun z => List.mem_append_right _ (h4 b z), fun b hb => List.mem_append_right _ (h5 b hb), fun b hb z => ?_⟩
    rcases List.mem_append.mp z with w | w
    · exact n'.2.2 b w b (h5 b hb) rfl
    · exact h6 b hb w
theorem OwEn.put {K : PySem.W.Frag} {F H : Hp} {v : V} {d : D} (hd : Dp K F v d) : ∀ {σ : L2.St} {env : En} {as : List Addr} {i : Nat}, OwEn K F H σ (env.set i none) as → σ[i]? = some (some v) → OwEn K F H σ (env.set i (some (.v (.fr d)))) as
  | _, [], _, _, h, e => by cases h; simp at e
  | _, _ :: _, _, 0, h, e => by
    cases h with
    | un t => simp at e; subst e; exact .so (bs := []) (.v (.fr hd)) t
  | _, x :: env, _, i + 1, h, e => by
    cases h with
    | un t => exact .un (OwEn.put hd (i := i) t (by simpa using e))
    | so a t => exact .so a (OwEn.put hd (i := i) t (by simpa using e))
theorem Rel.share {K : PySem.W.Frag} {B F H : Hp} {env : En} {σ : L2.St} (i : Nat) (r : Rel K B F H env σ) : ∃ F', AfterS B F F' ∧ Rel K B F' H (fzE env i) σ := by
  unfold fzE
  split
  · rename_i s e
    obtain ⟨as, h1, h2, h3⟩ := r.sl
    obtain ⟨v, bs, q1, q2, q3⟩ := h1.get e
    obtain ⟨cs, ds, w1, w2, w3, w4, w5, w6⟩ := h1.share h2 e q1 q2
    cases w2 with
    | v o =>
      let G : Hp := fun a => if a ∈ ds then H a else F a
      have hF : ∀ a o, F a = some o → a ∉ ds := fun a u e z => by
        have := (o.at _ _ _ a z).1
        rw [e] at this; cases this
      have gF : Same F G := .mixF fun a z => (o.at _ _ _ a z).1
      have gH : Same G H := .mixH r.fh
      refine ⟨G, ⟨gF, fun a u e n => ?_⟩, r.bh, gH, cs, OwEn.put (Ow.dp gF _ _ _ o fun a ha => if_pos ha) (w1.mono gF fun a ha => ⟨?_, rfl⟩) q1, w3, fun a ha => h3 a (w4 a ha)⟩
      · have e : (if a ∈ ds then H a else F a) = some u := e
        split at e
        · rename_i hm; exact h3 a (w5 a hm)
        · rw [n] at e; cases e
      · show (if a ∈ ds then H a else F a) = none
        rw [if_neg fun z => w6 a z ha]
        exact (w1.at a ha).1
  · exact ⟨F, AfterS.refl, r⟩
def fzS (i : Nat) (T : En → SR) : En → SR := fun env => T (fzE env i)
theorem ds_share (i : Nat) (h : DS X W st T) : DS X W st (fzS i T) := h.wk fun D σ H ⟨B, F, env, r, p⟩ => by
  obtain ⟨F', x, r'⟩ := r.share i
  exact ⟨B, F', _, r', PoS.after p x⟩
end
end DL
namespace DL
open PySem PySem.Spec PyProof.Rows L2
variable [Tabs]
/-! ### own errors -/
/-- an own error class without a body of its own -/
structure ErC (K : PySem.W.Frag) (mg : Str → Option Value) (x : Str) (C : Addr) : Prop where
  g : mg x = some (.ref C)
  q : ∃ bmB : List Value, PySem.W.excIn K C bmB "ValueError.__new__" = true ∧ bmB = [.type "ValueError", .type "Exception", .type "BaseException", .type "object"]
  k : PySem.W.keepIn K (.ref C) = true
  b : PySem.W.subIn K (.ref C) (.type "BaseException") = some true
  t : PySem.W.typeIn K (.ref C) = some (.type "type")
theorem ErC.ec {K : PySem.W.Frag} {mg : Str → Option Value} {x : Str} {C : Addr} (e : ErC K mg x C) : ecOf mg x = .ref C := by unfold ecOf; rw [e.g]; rfl
section
variable {X : Cx} {W : WX} {k : Nat} {m : Md} {pos pos' p p2 : Pos} {e c tg iter ei : Expr} {f fi : En → R D} {fo : En → R S} {t : En → R Bool} {st : Stmt} {sts body : List Stmt} {T U : En → SR} {C : Addr}
def erS (x : Str) : En → SR := fun env => .er x env
theorem ds_raise {x msg : Str} {j : Nat} (cx : Cxt X W k) (E : ErC X.K X.mg x C) (hg : Gl X x := by rfl) (hdb : (x == ("__debug__" : Str)) = false := by decide) : DS X W (.Raise (some (.Call (.Name x p) [.Constant (.str msg) j p2] [] pos)) none pos') (erS x) := by
  obtain ⟨bmB, q, rfl⟩ := E.q
  refine (ps_raise cx.calm cx.tk (pmk_own F.excBase_ValueError q E.g E.k (raises_own E.b E.t) hg hdb)).wk fun D σ H ⟨B, F, env, r, pp⟩ => ?_
  have := pp σ H F AfterS.refl r
  rw [E.ec] at this
  exact this

/-! ### try: body, except x as n: suite; except x: suite -/
def SR.un (i : Nat) : SR → SR
  | .nx e => .nx (e.set i none)
  | .bk e => .bk (e.set i none)
  | .ct e => .ct (e.set i none)
  | .rt s => .rt s
  | .er _ _ => .no
  | .no => .no
def SR.shut : SR → SR
  | .er _ _ => .no
  | r => r
/-- an outcome that does not hang on the address -/
noncomputable def tryX (g : Addr → SR) : SR := open Classical in if ∀ a, g a = g 0 then g 0 else .no
theorem tryX_eq {g : Addr → SR} {r : SR} (h : ∀ a, g a = r) : tryX g = r := by
  unfold tryX
  rw [if_pos (fun a => (h a).trans (h 0).symm)]
  exact h 0
theorem PoS.tryX {K : PySem.W.Frag} {ec : Str → Value} {W : WX} {B F : Hp} {D : Ends} {g : Addr → SR} (p : PoS K ec W B F D (DL.tryX g)) (a : Addr) : PoS K ec W B F D (g a) := by
  unfold DL.tryX at p
  split at p
  · rename_i h; rw [h a]; exact p
  · exact p.elim
/-- sel: whether the clause takes an error of the class -/
noncomputable def tryS (i : Nat) (sel : Str → Option Bool) (T : En → SR) (U : Str → Addr → En → SR) : En → SR := fun env => match T env with
  | .er c e => match sel c with
    | some true => tryX fun a => (U c a (e.set i (some (.xc a)))).un i
    | some false => .er c e
    | none => .no
  | r => r
def tryO (sel : Str → Option Bool) (T : En → SR) (U : Str → En → SR) : En → SR := fun env => match T env with
  | .er c e => match sel c with
    | some true => (U c e).shut
    | some false => .er c e
    | none => .no
  | r => r
theorem Cxt.tr (cx : Cxt X W k) {W' : WX} {pn : List (Addr × Obj)} {xe : Value → Shared → Prop} (tk : Takes (X.tr pn xe) W') (po : PassesOwn (model X.prog X.w) X.A X.env xe) : Cxt (X.tr pn xe) W' k := ⟨cx.calm, cx.nd, tk, cx.rm, cx.gd, po⟩
theorem pss_ex {X : Cx} {sts : List Stmt} {A : Type} {P : A → Prop} {t : A → TS} (h : ∀ a, P a → PSs X sts (t a)) : PSs X sts (fun D σ H => ∃ a, P a ∧ t a D σ H) := ⟨fun pins s σ H D I ⟨a, pa, q⟩ => (h a pa).run pins s σ H D I q⟩
/-- what the clause is over -/
structure Cl (X : Cx) (n : Str) (cv : Value) (sel : Str → Option Bool) : Prop where
  nm : Names X n cv
  ex : ∀ c b, sel c = some b → PySem.W.exmOne X.K (ecOf X.mg c) cv = some b
theorem ds_tryO {n : Str} {np : Pos} {cv : Value} {b0 : Stmt} {suite : List Stmt} {sel : Str → Option Bool} {U : Str → En → SR} (cx : Cxt X W k) (cl : Cl X n cv sel)
    (hb : ∀ (W' : WX) (pn : List (Addr × Obj)) (xe : Value → Shared → Prop), Cxt (X.tr pn xe) W' k → DSs (X.tr pn xe) W' body T)
    (hu : ∀ (c : Str) (a : Addr) (oe : Obj) (pn : List (Addr × Obj)), sel c = some true → Zc (ecOf X.mg c) none oe → (∃ vs, oe.data = .fields vs) → DSs (X.suite a ((a, oe) :: pn)) never (b0 :: suite) (U c))
    (hs : X.stack = X.env :: X.outer := by rfl) (hf : X.env.frame = some X.env.locals := by rfl) :
    DS X W (.Try body [.ExceptHandler (some (.Name n np)) none (b0 :: suite) pos'] [] [] pos) (tryO sel T U) := by
  refine (ps_try_only (Wout := W) (tb := fun W' => tS X.K (ecOf X.mg) W' T) (ts := fun a cls d D σ H => ∃ c, (cls = ecOf X.mg c ∧ d = none ∧ sel c = some true) ∧ tS X.K (ecOf X.mg) never (U c) D σ H) hs hf cl.nm cx.tk (fun W' pn xe tk po => hb W' pn xe (cx.tr tk po)) (fun a oe cls d pn hz hd => pss_ex fun c hc => ?_)).wk fun D σ H ⟨B, F, env, r, p⟩ => ?_
  · obtain ⟨rfl, rfl, h3⟩ := hc
    exact hu c a oe pn h3 hz hd
  · refine ⟨B, F, env, r, ?_⟩
    unfold tryO at p
    cases e : T env with
    | nx e1 => rw [e] at p; exact p
    | rt s => rw [e] at p; exact p
    | bk s => rw [e] at p; exact p
    | ct s => rw [e] at p; exact p
    | no => rw [e] at p; exact p
    | er c e1 =>
      rw [e] at p
      intro σ2 H2 F2 x2 r2
      dsimp only at p
      cases es : sel c with
      | none => rw [es] at p; exact p.elim
      | some b =>
        rw [es] at p
        refine ⟨b, cl.ex c b es, fun hbt a na => ?_, fun hbf => ?_⟩
        · subst hbt
          refine ⟨c, ⟨rfl, rfl, es⟩, B, F2, e1, r2, ?_⟩
          have p' := PoS.after (r := (U c e1).shut) p x2
          cases eu : U c e1 with
          | er c2 e2 => rw [eu] at p'; exact p'.elim
          | nx e2 => rw [eu] at p'; exact p'
          | rt s => rw [eu] at p'; exact p'
          | bk s => rw [eu] at p'; exact p'
          | ct s => rw [eu] at p'; exact p'
          | no => rw [eu] at p'; exact p'
        · subst hbf
          exact p σ2 H2 F2 x2 r2
theorem ds_tryS {n : Str} {np : Pos} {y : Str} {cv : Value} {b0 : Stmt} {suite : List Stmt} {sel : Str → Option Bool} {U : Str → Addr → En → SR} (i : Nat) (cx : Cxt X W k) (cl : Cl X n cv sel)
    (hb : ∀ (W' : WX) (pn : List (Addr × Obj)) (xe : Value → Shared → Prop), Cxt (X.tr pn xe) W' k → DSs (X.tr pn xe) W' body T)
    (hu : ∀ (c : Str) (a : Addr) (oe : Obj) (pn : List (Addr × Obj)), sel c = some true → Zc (ecOf X.mg c) none oe → (∃ vs, oe.data = .fields vs) → DSs (X.suite a ((a, oe) :: pn)) never (b0 :: suite) (U c a))
    (hi : X.N[i]? = some y := by rfl) (hy : X.env.kindOf y = some .local := by rfl) (hs : X.stack = X.env :: X.outer := by rfl) (hf : X.env.frame = some X.env.locals := by rfl) :
    DS X W (.Try body [.ExceptHandler (some (.Name n np)) (some y) (b0 :: suite) pos'] [] [] pos) (tryS i sel T U) := by
  refine (ps_try_as (Wout := W) (tb := fun W' => tS X.K (ecOf X.mg) W' T) (ts := fun a cls d D σ H => ∃ c, (cls = ecOf X.mg c ∧ d = none ∧ sel c = some true) ∧ tS X.K (ecOf X.mg) never (U c a) D σ H) hs hf cx.nd hi hy cl.nm cx.tk (fun W' pn xe tk po => hb W' pn xe (cx.tr tk po)) (fun a oe cls d pn hz hd => pss_ex fun c hc => ?_)).wk fun D σ H ⟨B, F, env, r, p⟩ => ?_
  · obtain ⟨rfl, rfl, h3⟩ := hc
    exact hu c a oe pn h3 hz hd
  · refine ⟨B, F, env, r, ?_⟩
    unfold tryS at p
    cases e : T env with
    | nx e1 => rw [e] at p; exact p
    | rt s => rw [e] at p; exact p
    | bk s => rw [e] at p; exact p
    | ct s => rw [e] at p; exact p
    | no => rw [e] at p; exact p
    | er c e1 =>
      rw [e] at p
      intro σ2 H2 F2 x2 r2
      dsimp only at p
      cases es : sel c with
      | none => rw [es] at p; exact p.elim
      | some b =>
        rw [es] at p
        refine ⟨b, cl.ex c b es, fun hbt a na => ?_, fun hbf => ?_⟩
        · subst hbt
          refine ⟨c, ⟨rfl, rfl, es⟩, B, F2, e1.set i (some (.xc a)), r2.set (.xc a) .nil (fun _ z => by cases z) (fun _ _ _ _ _ z => by cases z), ?_⟩
          have p' := PoS.after (PoS.tryX p a) x2
          cases eu : U c a (e1.set i (some (.xc a))) with
          | er c2 e2 => rw [eu] at p'; exact p'.elim
          | nx e2 => rw [eu] at p'; exact fun σ3 H3 F3 a3 r3 => p' _ H3 F3 a3 r3.drop
          | rt s => rw [eu] at p'; exact p'
          | bk e2 => rw [eu] at p'; exact fun σ3 H3 F3 a3 r3 => p' _ H3 F3 a3 r3.drop
          | ct e2 => rw [eu] at p'; exact fun σ3 H3 F3 a3 r3 => p' _ H3 F3 a3 r3.drop
          | no => rw [eu] at p'; exact p'
        · subst hbf
          exact p σ2 H2 F2 x2 r2
/-- isinstance(e, C), e the exception that the suite holds -/
def isiS (i : Nat) (a : Addr) (b : Bool) : En → R D := fun env => match env[i]? with
  | some (some (.xc a')) => if a' = a then .ok (.bool b) else .no
  | _ => .no
theorem de_isE {a D0 : Addr} {oe : Obj} {pn : List (Addr × Obj)} {W : WX} {m : Md} {x y : Str} {p0 p1 p2 : Pos} {cv : Value} {v : V} {b : Bool} (i : Nat) (E : ExcC X.K D0) (hz : Zc (.ref D0) none oe) (hf : ∃ vs, oe.data = .fields vs)
    (hn : (X.suite a ((a, oe) :: pn)).N[i]? = some x) (hv : Vis (X.suite a ((a, oe) :: pn)).env.scope x) (hd : (x == ("__debug__" : Str)) = false) (hcd : (x == ("__classdict__" : Str)) = false)
    (hc : PE (X.suite a ((a, oe) :: pn)) (.Name y p2) (tC v)) (hcv : ClsV v cv) (hk : PySem.W.kitOne X.K (.ref D0) cv = some b)
    (hg : Gl (X.suite a ((a, oe) :: pn)) "isinstance") (hm : X.mg "isinstance" = none)
    (he : starEach [.Name x p1, .Name y p2] (X.suite a ((a, oe) :: pn)).env = (false, eval (.Name x p1) (X.suite a ((a, oe) :: pn)).env) :: starEach [.Name y p2] (X.suite a ((a, oe) :: pn)).env)
    (he2 : starEach [.Name y p2] (X.suite a ((a, oe) :: pn)).env = (false, eval (.Name y p2) (X.suite a ((a, oe) :: pn)).env) :: starEach [] (X.suite a ((a, oe) :: pn)).env)
    (hpl : (backTo pos (starEach [.Name y p2] (X.suite a ((a, oe) :: pn)).env)).any (·.1) = false) :
    DE (X.suite a ((a, oe) :: pn)) W m (.Call (.Name "isinstance" p0) [.Name x p1, .Name y p2] [] pos) (isiS i a b) := by
  refine (pe_callB (call_isE E hz hf) hg hm PyProof.Rows.boot_isinstance (pa_cons (pe_var hn hv hd hcd) (pa_cons hc pa_nil he2) he) (by decide) (by decide) he hpl).wk fun σ H Q ⟨B, F, env, r, p⟩ => ?_
  unfold isiS at p
  split at p
  · rename_i a' ee
    split at p
    · rename_i h
      subst h
      obtain ⟨as, h1, _, _⟩ := r.sl
      obtain ⟨w, bs, q1, q2, _⟩ := h1.get ee
      cases q2
      exact ⟨.ref a', q1, v, cv, b, rfl, fun u ru => hcv.eq ru, hk, p _ H F (After.refl r.fh) (Rp.bl b)⟩
    · exact p.elim
  · exact p.elim
end
end DL
namespace DL
open PySem PySem.Spec PyProof.Rows L2
variable [Tabs]
/-- a def's promise of data: from the arguments' data the outcome g -/
def Pr (K : PySem.W.Frag) (mg : Str → Option Value) (n : Nat) (g : List D → R S) : Sp := fun vs H Q E => ∃ F ds, (vs.length = n ∧ Tg H) ∧ Same F H ∧ DpAll K F vs ds ∧ match g ds with
  | .ok s => ∀ v H' F' as, After F H F' H' → Ow K F' H' v s as → as.Nodup → (∀ a ∈ as, H a = none) → Q v H'
  | .er c => ∀ H' F', After F H F' H' → E (ecOf mg c) none H'
  | .no => False
/-- the def at f keeps it, wherever no repr is under way -/
structure FnG (P : Program) (w : World) (K : PySem.W.Frag) (mg : Str → Option Value) (base : Heap) (k : Nat) (f : Addr) (fd : FuncData) (ps : List Str) (g : List D → R S) : Prop where
  run : ∀ (A : Around) (outer : List Env) (s : Shared) (H : Hp) (us : List Value) (vs : List V) (Q : VK) (E : XK), Room k A → A.guards = some [] → Env0 P w K mg base A outer s H →
    BindsTo s fd ⟨us, []⟩ (ps.zip us) → Vals vs us → Pr K mg ps.length g vs H Q E → codeAny (model P w) A (.call (.ref f) ⟨us, []⟩) (CR (L2.CX P w) outer P w H s Q E) s
theorem FnG.mono {P : Program} {w : World} {K : PySem.W.Frag} {mg : Str → Option Value} {base : Heap} {j k : Nat} {f : Addr} {fd : FuncData} {ps : List Str} {g : List D → R S} (F : FnG P w K mg base j f fd ps g) (h : j ≤ k) : FnG P w K mg base k f fd ps g :=
  ⟨fun A outer s H us vs Q E hr => F.run A outer s H us vs Q E (hr.mono h)⟩
/-- it says no more than g -/
theorem FnG.imp {P : Program} {w : World} {K : PySem.W.Frag} {mg : Str → Option Value} {base : Heap} {k : Nat} {f : Addr} {fd : FuncData} {ps : List Str} {g g' : List D → R S} (F : FnG P w K mg base k f fd ps g)
    (h : ∀ ds, ds.length = ps.length → g' ds = .no ∨ g ds = g' ds) : FnG P w K mg base k f fd ps g' :=
  ⟨fun A outer s H us vs Q E hr hg e0 hb rv hp => F.run A outer s H us vs Q E hr hg e0 hb rv (by
    obtain ⟨F0, ds, h1, h2, h3, h4⟩ := hp
    refine ⟨F0, ds, h1, h2, h3, ?_⟩
    rcases h ds (h3.len.symm.trans h1.1) with z | z
    · rw [z] at h4; exact h4.elim
    · rw [z]; exact h4)⟩
section
variable {X : Cx} {W : WX} {j k : Nat} {f : Addr} {fd : FuncData} {ps : List Str} {g : List D → R S} {x : Str} {p pos : Pos} {e : Expr} {es : List Expr} {fs : En → R (List D)} {ms : List Md}
theorem do_call (G : FnG X.prog X.w X.K X.mg X.base j f fd ps g) (cx : Cxt X W k) (hk : j ≤ k) (hg : Gl X x) (hm : X.mg x = some (.ref f)) (kp : PySem.W.keepIn X.K (.ref f) = true) (hb : Binds X.K fd ps []) (ha : DA X W ms (e :: es) fs) (hms : allf ms = true) (hl : (e :: es).length = ps.length ∨ True)
    (hn : ∀ ds env, fs env = .ok ds → ds.length = ps.length) (hdb : (x == ("__debug__" : Str)) = false := by decide) (he : starEach (e :: es) X.env = (false, eval e X.env) :: starEach es X.env := by rfl) (hpl : (backTo pos (starEach es X.env)).any (·.1) = false := by rfl) :
    DO X W (.Call (.Name x p) (e :: es) [] pos) (cal fs g) := by
  refine ⟨fun pins s σ H Q I ⟨B, F, env, r, q⟩ => ?_⟩
  refine wpAny_Call_Name_kw (ld_glob I hg hm ?_ hdb)
  have arg : tA X.K (ecOf X.mg) W ms fs σ H (fun vs H1 => vs.length = ps.length ∧ Pr X.K X.mg ps.length g vs H1 Q (WE W σ)) := by
    refine ⟨B, F, env, r, ?_⟩
    unfold cal at q
    cases ef : fs env with
    | er c => rw [ef] at q; exact q
    | no => rw [ef] at q; exact q
    | ok ds =>
      rw [ef] at q
      intro vs H1 F1 a rl
      have dp := rl.fs (allf_of hms)
      have ln : vs.length = ps.length := dp.len.trans (hn ds env ef)
      refine ⟨ln, F1, ds, ⟨ln, (r.bh.trans a.hh).tgH⟩, a.fh, dp, ?_⟩
      have q : PoO X.K (ecOf X.mg) W F H σ Q (g ds) := q
      cases eg : g ds with
      | no => rw [eg] at q; exact q
      | er c => rw [eg] at q; exact fun H2 F2 a2 => q H2 F2 (a.trans a2)
      | ok so => rw [eg] at q; exact fun v H2 F2 as a2 o n fr => q v H2 F2 as (a.trans a2) o n fun b hb => a.hh.free (fr b hb)
  refine PySem.W.callWith_K (h₀ := X.base) I.ok.mod.kin kp (thn (ha.run pos pins s σ H _ I arg) fun us s1 ⟨vs, H1, I1, rv, hlen, hp⟩ => ⟨I1.kIn, ?_⟩) he hpl
  have hus : us.length = ps.length := rv.length.symm.trans hlen
  have bb := hb s1 us I1.kIn (by rw [List.append_nil]; exact hus)
  rw [List.append_nil] at bb
  refine wpAny_call (codeAny_mono (G.run X.A X.stack s1 H1 us vs Q (WE W σ) (cx.rm.mono hk) cx.gd I1.env0 bb rv hp) fun rr s2 hq => ?_)
  cases rr with
  | error u => exact passAt cx.tk σ pins H1 s1 u s2 I1 hq
  | ok fl => cases fl with
    | ret u => exact I1.after hq
    | next => exact hq.elim
    | brk => exact hq.elim
    | cont => exact hq.elim
theorem consA_len {f1 : En → R D} {g1 : En → R (List D)} {n : Nat} (h : ∀ ds env, g1 env = .ok ds → ds.length = n) : ∀ ds env, consA f1 g1 env = .ok ds → ds.length = n + 1 := fun ds env e => by
  unfold consA at e
  cases z : f1 env with
  | ok d =>
    rw [z] at e
    simp only [R.bind] at e
    cases y : g1 env with
    | ok es => rw [y] at e; cases e; simp [h es env y]
    | er c => rw [y] at e; cases e
    | no => rw [y] at e; cases e
  | er c => rw [z] at e; cases e
  | no => rw [z] at e; cases e
theorem nilA_len : ∀ ds env, nilA env = .ok ds → ds.length = 0 := fun ds env e => by cases e; rfl
end

/-! ### a def's body -/
def init (N : List Str) (ds : List D) : En := ds.map (fun d => some (.v (.fr d))) ++ List.replicate (N.length - ds.length) none
def endR : SR → R S
  | .rt s => .ok s
  | .nx _ => .ok (.fr .none)
  | .er c _ => .er c
  | _ => .no
def bodyR (N : List Str) (n : Nat) (T : En → SR) : List D → R S := fun ds => if ds.length = n then endR (T (init N ds)) else .no
theorem owEn_rep {K : PySem.W.Frag} {F H : Hp} : ∀ n : Nat, OwEn K F H (List.replicate n none) (List.replicate n none) []
  | 0 => .nil
  | n + 1 => .un (owEn_rep n)
theorem owEn_init {K : PySem.W.Frag} {F H : Hp} {n : Nat} : ∀ {vs : List V} {ds : List D}, DpAll K F vs ds → OwEn K F H (vs.map some ++ List.replicate n none) (ds.map (fun d => some (Sl.v (.fr d))) ++ List.replicate n none) []
  | _, _, .nil => owEn_rep n
  | _, _, .cons a t => .so (bs := []) (.v (.fr a)) (owEn_init t)
theorem guards_deeper {A : Around} {env : Env} (h : A.guards = some []) : (A.deeper env).guards = some [] := by
  first | exact h | (show (Around.deeper A env).guards = some []; simpa [Around.deeper] using h)
section
variable {P : Program} {w : World} {K : PySem.W.Frag} {mg : Str → Option Value} {base : Heap}
theorem fnG_mk {y qual : Str} {st : Stmt} {f : Addr} {fd : FuncData} {N ps : List Str} {k : Nat} {T : En → SR} (Fn : Fun K y qual st f fd) (S : FnScope N ps (defScope st))
    (hT : ∀ (f0 : Addr) (cdv : Value) (A : Around) (outer : List Env) (s : Shared) (H : Hp) (E : XK),
      Cxt (cxOf (L2.CX P w) P w K mg base N qual (defScope st) f0 cdv A outer s H E) (fun cls d _ H' => E cls d H') k → DSs (cxOf (L2.CX P w) P w K mg base N qual (defScope st) f0 cdv A outer s H E) (fun cls d _ H' => E cls d H') (defBody st) T) :
    FnG P w K mg base (k + 1) f fd ps (bodyR N ps.length T) := by
  obtain ⟨oc, od, kV, doc, pm, an, cdv, ct, osl, rfl, lk, hcd⟩ := Fn.ex
  refine ⟨fun A outer s H us vs Q E hr hgd e0 hb rv hp => ?_⟩
  obtain ⟨F, ds, ⟨hlen, htg⟩, hF, hd, hq⟩ := hp
  have hu : us.length = ps.length := rv.length.symm.trans hlen
  have inH : K.In s.heap := e0.mod.kin.keeps fun b o e => (e0.bs b o e).1
  have noL : s.heap.NoLimit := e0.mod.nolimit.keeps fun b o e => (e0.bs b o e).1
  have kinds : ∀ z ∈ ps.zip us, (defScope st).names.lookup z.1 = some .local ∨ ((defScope st).names.lookup z.1 = some .cell ∧ ((cellsFrom (s.heap.objs.size + 1) (defScope st).names []).lookup z.1).isSome = true) := by
    rintro ⟨n, u⟩ hz
    exact (S.par n (List.of_mem_zip hz).1).imp id fun q => ⟨q, PySem.W.cellsFrom_some _ _ _ (.inl q)⟩
  refine codeAny_call_function hr.depth (inH _ _ lk) rfl S.co S.gen rfl (PySem.W.codeRec_of inH hcd) (hb _ _ _ _ ?_)
  refine wpAny_newFunctionEnv_cells S.kind kinds fun env1 eq1 s1 made => ?_
  subst eq1
  refine ⟨noL.keeps made.toInCall.keep, codeAny_func ?_⟩
  have I : Inv (cxOf (L2.CX P w) P w K mg base N qual (defScope st) f cdv A outer s H E) [] (L2.start N vs) H s1 := inv_start S hr.hd e0 hlen rv made
  have cx : Cxt (cxOf (L2.CX P w) P w K mg base N qual (defScope st) f cdv A outer s H E) (fun cls d _ H' => E cls d H') k :=
    ⟨rfl, S.nd, takes_of rfl rfl rfl rfl, hr.deeper _, guards_deeper hgd, passes_of rfl⟩
  have body := hT f cdv A outer s H E cx
  have rel0 : Rel K H F H (init N ds) (L2.start N vs) := by
    refine ⟨⟨Same.refl _, htg⟩, hF, [], ?_, .nil, fun a ha => by cases ha⟩
    unfold init L2.start
    rw [hd.len]
    exact owEn_init hd
  have run := body.run [] s1 (L2.start N vs) H { nx := fun _ H' => Q .non H', rt := Q } I ⟨H, F, init N ds, rel0, ?_⟩
  · refine wpAny_mono run (fun fl s2 hs => ?_) fun u s2 hs => hs
    cases fl with
    | ret u =>
      obtain ⟨v, σ2, H2, J, rvu, qv⟩ := hs
      exact ⟨v, H2, J.os, J.bare, J.base, J.hok, rvu, qv⟩
    | next =>
      obtain ⟨σ2, H2, J, qv⟩ := hs
      exact ⟨.non, H2, J.os, J.bare, J.base, J.hok, rfl, qv⟩
    | brk => obtain ⟨_, _, _, qv⟩ := hs; exact qv.elim
    | cont => obtain ⟨_, _, _, qv⟩ := hs; exact qv.elim
  · have hl2 : ds.length = ps.length := hd.len.symm.trans hlen
    unfold bodyR at hq
    rw [if_pos hl2] at hq
    cases eT : T (init N ds) with
    | rt s0 => rw [eT] at hq; exact fun v H' F' as a b1 b2 o n fr => hq v H' F' as ⟨a.ff, b2, b1, fun x o e n => a.nw x o e n⟩ o n fr
    | nx e1 => rw [eT] at hq; exact fun σ2 H' F' a r => hq .non H' F' [] ⟨a.ff, r.fh, r.bh, a.nw⟩ (.fr .non) .nil fun _ z => by cases z
    | er c e1 => rw [eT] at hq; exact fun σ2 H' F' a r => hq H' F' ⟨a.ff, r.fh, r.bh, a.nw⟩
    | bk e1 => rw [eT] at hq; exact hq.elim
    | ct e1 => rw [eT] at hq; exact hq.elim
    | no => rw [eT] at hq; exact hq.elim
end
end DL
namespace DL
open PySem PySem.Spec PyProof.Rows L2
variable [Tabs]
/-- the law's call, from its def's promise; cs: the code objects whose tables may grow -/
theorem law_callT {P : Program} {w : World} {K : PySem.W.Frag} {mg mb : Str → Option Value} {k : Nat} {fa a : Addr} {fd : FuncData} {x : Str} {g : List D → R S} {s1 : Shared} {vs : List Value} {ns : List Int} {cs : List (Addr × Addr)}
    (KX : K.In s1.heap) (hns : s1.heap.Ns mainGlobals mg) (hb : s1.heap.Ns builtinsNs mb) (hbb : ∀ x : Str, x ≠ "__name__" → mb x = bootBuiltins x) (hlim : s1.heap.NoLimit) (hg : s1.gens = #[])
    (tab : ∀ q ∈ cs, s1.heap.get? q.2 = some { cls := .none, data := .fields #[] }) (noK : ∀ q ∈ cs, K.lookup q.2 = none) (hcd : ∀ q ∈ cs, PySem.W.CodeHd s1.heap q.1 q.2) (eT : Tabs.T = cs.map fun q => q.2)
    (mainB : cs ≠ [] → ∃ (m : Addr) (mo : Obj), mg "__builtins__" = some (.ref m) ∧ m ≠ builtinsNs ∧ s1.heap.get? m = some mo ∧ mo.cls = .type "module" ∧ mo.dict = some builtinsNs ∧ mo.data = .plain)
    (ha : s1.heap.get? a = some { cls := .type "list", data := .seq vs.toArray }) (hi : IntsAre vs ns) (hl : ns.length ≤ sizeLine) (hr : Room k callerA)
    (Fn : ∀ base : Heap, Mod K mg base → (∀ q ∈ cs, GxR.TabB base mg q.1 q.2) → FnG P w K mg base k fa fd [x] g) (hbind : ∀ (s : Shared) (u : Value), BindsTo s fd ⟨[u], []⟩ [(x, u)])
    (good : g [.list (ns.map .int)] = .ok (.fr (.bool true))) :
    codeAny (model P w) callerA (.call (.ref fa) ⟨[.ref a], []⟩) (fun r s' => r = .ok (.ret (.bool true)) ∧ OldK s1.heap s'.heap ∧ s'.os = s1.os ∧ AllBare s'.gens) s1 := by
  have rv := vals_ints hi
  have atT : ∀ b, b ∈ cs.map (fun q => q.2) → s1.heap.get? b = some { cls := .none, data := .fields #[] } := fun b hb => by
    obtain ⟨q, hq, e⟩ := List.mem_map.mp hb
    subst e; exact tab q hq
  have aNo : a ∉ cs.map (fun q => q.2) := fun z => by
    have := atT a z
    rw [ha] at this
    injection this with this
    injection this with c1
    cases c1
  have main : ∀ H : Hp, (∀ b, H b = none ∨ (b = a ∧ ∃ o ys, H b = some (.frz o (.lst ys))) ∨ (b ∈ cs.map (fun q => q.2) ∧ H b = some (.tbl #[]))) → (∀ b, b ∈ cs.map (fun q => q.2) → H b = some (.tbl #[])) → SqL K H a (ns.map V.int) → HOk P w H s1.heap → (H a ≠ none → K.lookup a = none) →
      codeAny (model P w) callerA (.call (.ref fa) ⟨[.ref a], []⟩) (fun r s' => r = .ok (.ret (.bool true)) ∧ OldK s1.heap s'.heap ∧ s'.os = s1.os ∧ AllBare s'.gens) s1 := by
    intro H hO hTb hS ok hK
    -- what is tracked is a list or a table
    have held : ∀ {b : Addr} {o : Obj}, s1.heap.get? b = some o → H b ≠ none → (o.cls = .type "list" ∧ ∃ ys, o.data = .seq ys) ∨ (o.cls = .none ∧ o.data = .fields #[]) := by
      intro b o e n
      rcases hO b with z | ⟨z, _⟩ | ⟨z, _⟩
      · exact absurd z n
      · subst z
        rw [ha] at e; cases e
        exact .inl ⟨rfl, _, rfl⟩
      · rw [atT b z] at e; cases e
        exact .inr ⟨rfl, rfl⟩
    have freeBy : ∀ {b : Addr} {o : Obj}, s1.heap.get? b = some o → (∀ ys, o.data ≠ .seq ys) → (o.data ≠ .fields #[] ∨ o.cls ≠ .none) → H b = none := by
      intro b o e n1 n2
      by_cases n : H b = none
      · exact n
      · rcases held e n with ⟨_, ys, z⟩ | ⟨z1, z2⟩
        · exact absurd z (n1 ys)
        · exact (n2.elim (fun n => n z2) fun n => n z1).elim
    have dictFree : ∀ {b : Addr} {o : Obj} {es : Array DictEntry} {ep : Nat}, s1.heap.get? b = some o → o.data = .dict es ep → H b = none := by
      intro b o es ep e d
      exact freeBy e (fun ys z => by rw [d] at z; cases z) (.inl fun z => by rw [d] at z; cases z)
    have keepNs : ∀ {b : Addr} {m : Str → Option Value}, s1.heap.Ns b m → (hidT s1.heap H).Ns b m := by
      rintro b m ⟨o, es, ep, e, d, q⟩
      exact ⟨o, es, ep, hidT_get e (dictFree e d), d, q⟩
    have inK : K.In (hidT s1.heap H) := by
      intro b o e
      refine hidT_get (KX b o e) ?_
      rcases hO b with z | ⟨z, _⟩ | ⟨z, _⟩
      · exact z
      · subst z
        by_cases q : H b = none
        · exact q
        · rw [hK q] at e; cases e
      · obtain ⟨q, hq, e2⟩ := List.mem_map.mp z
        subst e2
        rw [noK q hq] at e; cases e
    have mod : Mod K mg (hidT s1.heap H) := ⟨inK, keepNs hns, ⟨mb, keepNs hb, hbb⟩, let ⟨mc, q1, q2⟩ := hlim; ⟨mc, keepNs q1, q2⟩⟩
    have env0 : Env0 P w K mg (hidT s1.heap H) callerA [] s1 H :=
      { frames := rfl, mod := mod, bs := fun b o e => of_hidT e, bsz := Nat.le_of_eq (hidT_size _ _), funs := trivial, frf := fun b q => absurd q (by simp [frs]), hok := ok, bare := .of_eq hg }
    have tb : ∀ q ∈ cs, GxR.TabB (hidT s1.heap H) mg q.1 q.2 := by
      intro q hq
      have tq := tab q hq
      obtain ⟨m, mo, w1, w2, w3, w4, w5, w6⟩ := mainB (by intro z; rw [z] at hq; cases hq)
      obtain ⟨og, eg, pg, g1, g2, _⟩ := hns
      have mg1 : m ≠ mainGlobals := fun z => by
        subst z
        rw [g1] at w3; cases w3
        rw [g2] at w6; cases w6
      have mg2 : m ≠ q.2 := fun z => by
        rw [z, tq] at w3; cases w3
        cases w6
      have mg3 : mainGlobals ≠ q.2 := fun z => by
        rw [z, tq] at g1; cases g1
        cases g2
      refine ⟨?_, ⟨m, mo, w1, w2, mg1, mg2, hidT_get w3 (freeBy w3 (fun ys z => by rw [w6] at z; cases z) (.inl fun z => by rw [w6] at z; cases z)), w4, w5, w6⟩, mg3⟩
      obtain ⟨oc, us, fl, tf, fg, tg, nf, tx, tt, c1, c2, rest⟩ := hcd q hq
      refine ⟨oc, us, fl, tf, fg, tg, nf, tx, tt, hidT_get c1 (freeBy c1 (fun ys z => ?_) (.inr fun z => ?_)), c2, rest⟩
      · rw [rest.1] at z; cases z
      · rw [c2] at z; cases z
    have pr : Pr K mg 1 g [.ref a] H (fun v _ => v = .bl true) fun _ _ _ => False := by
      refine ⟨H, [.list (ns.map .int)], ⟨rfl, fun p hp => ?_⟩, Same.refl _, .cons (.lst hS (dp_ints ns)) .nil, ?_⟩
      · rw [eT] at hp
        exact ⟨#[], hTb p hp, trivial⟩
      rw [good]
      intro v H' F' as _ o _ _
      cases o with
      | fr q => cases q; rfl
    refine codeAny_mono ((Fn _ mod tb).run callerA [] s1 H [.ref a] [.ref a] _ _ hr rfl env0 (hbind s1 (.ref a)) (.cons rfl .nil) pr) fun r s' q => ?_
    cases r with
    | error u =>
      obtain ⟨_, _, _, _, _, _, _, _, _, _, _, _, z⟩ := q
      exact z.elim
    | ok fl => cases fl with
      | next => exact q.elim
      | brk => exact q.elim
      | cont => exact q.elim
      | ret u =>
        obtain ⟨v, H', os, bare, un, ok', rvu, e⟩ := q
        cases e
        cases rvu
        have same : ∀ b o, b ∉ cs.map (fun q => q.2) → s1.heap.get? b = some o → s'.heap.get? b = some o := by
          intro b o nb e
          rcases hO b with z | ⟨_, o2, ys, z⟩ | ⟨z, _⟩
          · exact un.keep b o e z (by intro q; cases q) (by simp)
          · have z2 := un.frzs b o2 _ z
            obtain ⟨e1, _⟩ := ok b _ z
            obtain ⟨e2, _⟩ := ok' b _ z2
            rw [e] at e1; cases e1
            exact e2
          · exact absurd z nb
        have grew : ∀ q ∈ cs, ∃ r : Array Value, s'.heap.get? q.2 = some { cls := .none, data := .fields r } := fun q hq => by
          obtain ⟨r, z⟩ := un.tbls q.2 #[] (hTb q.2 (List.mem_map.mpr ⟨q, hq, rfl⟩))
          exact ⟨_, ok' q.2 _ z⟩
        refine ⟨rfl, ⟨fun b o e => ?_, fun b o e => ?_⟩, os, bare⟩
        · by_cases nb : b ∈ cs.map (fun q => q.2)
          · obtain ⟨q, hq, e2⟩ := List.mem_map.mp nb
            subst e2
            obtain ⟨r, hr⟩ := grew q hq
            have tq := tab q hq
            rw [tq] at e; cases e
            exact .inr (.inl ⟨((hcd q hq).tab tq).isCodeTable, rfl, #[], r, rfl, by rw [Array.empty_append]; exact hr⟩)
          · exact .inl (same b o nb e)
        · by_cases nb : b ∈ cs.map (fun q => q.2)
          · obtain ⟨q, hq, e2⟩ := List.mem_map.mp nb
            subst e2
            obtain ⟨r, hr⟩ := grew q hq
            exact ⟨_, hr⟩
          · exact ⟨o, same b o nb e⟩
  have hlen := hi.length
  let tl := cs.map fun q => q.2
  cases hk : K.lookup a with
  | some o =>
    have e := KX a o hk
    rw [ha] at e; cases e
    let G : Hp := fun b => if b ∈ tl then some (.tbl #[]) else none
    have gT : ∀ b, b ∈ tl → G b = some (.tbl #[]) := fun b hb => if_pos hb
    have gN : ∀ b, b ∉ tl → G b = none := fun b hb => if_neg hb
    refine main G (fun b => ?_) gT (.inr ⟨_, vs.toArray, _, hk, rfl, rfl, rfl, by rw [List.size_toArray, hlen]; exact hl, by simpa using rv⟩) (fun b u z => ?_) fun z => absurd (gN a aNo) z
    · by_cases q : b ∈ tl
      · exact .inr (.inr ⟨q, gT b q⟩)
      · exact .inl (gN b q)
    · by_cases q : b ∈ tl
      · rw [gT b q] at z; cases z
        exact atT b q
      · rw [gN b q] at z; cases z
  | none =>
    let G : Hp := fun b => if b = a then some (.frz { cls := .type "list", data := .seq vs.toArray } (.lst (ns.map V.int))) else if b ∈ tl then some (.tbl #[]) else none
    have gA : G a = some (.frz { cls := .type "list", data := .seq vs.toArray } (.lst (ns.map V.int))) := if_pos rfl
    have gT : ∀ b, b ∈ tl → G b = some (.tbl #[]) := fun b hb => (if_neg (fun z => aNo (by rw [← z]; exact hb))).trans (if_pos hb)
    have gN : ∀ b, b ≠ a → b ∉ tl → G b = none := fun b na hb => (if_neg na).trans (if_neg hb)
    refine main G (fun b => ?_) gT (.inl (.inr ⟨_, gA⟩)) (fun b u z => ?_) fun _ => hk
    · by_cases q : b = a
      · exact .inr (.inl ⟨q, _, _, by rw [q]; exact gA⟩)
      · by_cases q2 : b ∈ tl
        · exact .inr (.inr ⟨q2, gT b q2⟩)
        · exact .inl (gN b q q2)
    · by_cases q : b = a
      · subst q
        rw [gA] at z; cases z
        exact ⟨ha, by rw [List.length_map]; exact hl, vs, _, rv, ha⟩
      · by_cases q2 : b ∈ tl
        · rw [gT b q2] at z; cases z
          exact atT b q2
        · rw [gN b q q2] at z; cases z
end DL
namespace DL
open PySem PySem.Spec PyProof.Rows L2
/-- what is left behind k_fill, from the law's promise -/
theorem walk_ofG {l : PySem.W.OpenLaw} {n k : Nat} {q : Program} {loose : List Str} {XP : (Str → Option Value) → Heap → Prop} {YP : World → Heap → Prop} {d : DefRec} {K : Params → PySem.W.Frag} {x : Str} {g : List D → R S}
    (hn : l.most = some n) (hn2 : n ≤ sizeLine) (hdf : d.params.defaults = []) (hr : Room k callerA) (hY : ∀ (w : World) (h : Heap), YP w h → (K w.params).In h)
    (Fn : ∀ (w : World) (mg : Str → Option Value) (fa : Addr) (h : Heap), (K w.params).In h → h.Ns mainGlobals mg → mg d.name = some (.ref fa) →
      ∃ fd : FuncData, (∀ (s : Shared) (u : Value), BindsTo s fd ⟨[u], []⟩ [(x, u)]) ∧ ∀ base : Heap, (K w.params).In base → base.Ns mainGlobals mg → FnG l.prog w (K w.params) mg base k fa fd [x] g)
    (good : ∀ ns : List Int, ns.length ≤ n → (∀ i ∈ ns, Builtin.Int.intBits i ≤ 1048576) → g [.list (ns.map .int)] = .ok (.fr (.bool true))) :
    PySem.W.WalkO q loose XP YP l.row.toRowW d [] (fun f vs => PySem.call f vs) := by
  refine Att.attach_callB hn hdf fun w s0 s1 mg mb fa o pm cd doc a vs ns G Y ho hd hcd hmg hobj hints hlen hbits hg => ?_
  have KX := hY w _ Y
  obtain ⟨fd, hb, hF⟩ := Fn w mg fa _ KX G.T.g hmg
  exact law_callT (cs := []) KX G.T.g G.T.b G.T.builtins G.T.nolimit hg (fun _ h => nomatch h) (fun _ h => nomatch h) (fun _ h => nomatch h) rfl (fun h => absurd rfl h) hobj hints (Nat.le_trans hlen hn2) hr (fun base k1 _ => hF base k1.kin k1.glob) hb (good ns hlen hbits)
/-- .. with tables: the code objects cs are told by the fragment -/
theorem walk_ofT {l : PySem.W.OpenLaw} {n k : Nat} {q : Program} {loose : List Str} {XP : (Str → Option Value) → Heap → Prop} {YP : World → Heap → Prop} {d : DefRec} {K : Params → PySem.W.Frag} {x : Str} {g : List D → R S}
    (hn : l.most = some n) (hn2 : n ≤ sizeLine) (hdf : d.params.defaults = []) (hr : Room k callerA) (hY : ∀ (w : World) (h : Heap), YP w h → (K w.params).In h)
    (Fn : ∀ (w : World) (mg mb : Str → Option Value) (fa : Addr) (h : Heap), (K w.params).In h → h.Ns mainGlobals mg → mg d.name = some (.ref fa) → (∀ {y : Str} {e : DefRec} {c P : Addr}, (recsOf q).find? (fun e => e.name == y) = some e → PySem.W.tabIn (K w.params) y = some (c, P) → PySem.W.CodeHd h c P ∧ h.get? P = some (PySem.W.tabObj #[])) →
      ∃ (fd : FuncData) (cs : List (Addr × Addr)), (∀ p ∈ cs, h.get? p.2 = some { cls := .none, data := .fields #[] }) ∧ (∀ p ∈ cs, (K w.params).lookup p.2 = none) ∧ (∀ p ∈ cs, PySem.W.CodeHd h p.1 p.2) ∧ (∀ (s : Shared) (u : Value), BindsTo s fd ⟨[u], []⟩ [(x, u)]) ∧
        ∀ base : Heap, Mod (K w.params) mg base → (∀ p ∈ cs, GxR.TabB base mg p.1 p.2) → @FnG ⟨cs.map fun q => q.2⟩ l.prog w (K w.params) mg base k fa fd [x] g)
    (good : ∀ ns : List Int, ns.length ≤ n → (∀ i ∈ ns, Builtin.Int.intBits i ≤ 1048576) → g [.list (ns.map .int)] = .ok (.fr (.bool true))) :
    PySem.W.WalkO q loose XP YP l.row.toRowW d [] (fun f vs => PySem.call f vs) := by
  refine Att.attach_callB hn hdf fun w s0 s1 mg mb fa o pm cd doc a vs ns G Y ho hd hcd hmg hobj hints hlen hbits hg => ?_
  have KX := hY w _ Y
  obtain ⟨fd, cs, t1, t2, t3, hb, hF⟩ := Fn w mg mb fa _ KX G.T.g hmg (fun hr ht => PySem.W.tab_of G.T KX hr ht)
  exact @law_callT ⟨cs.map fun q => q.2⟩ _ _ _ _ _ _ _ _ _ _ _ _ _ _ cs KX G.T.g G.T.b G.T.builtins G.T.nolimit hg t1 t2 t3 rfl (fun _ => G.T.bmain) hobj hints (Nat.le_trans hlen hn2) hr hF hb (good ns hlen hbits)
end DL
namespace DL
open PySem PySem.Spec PyProof.Rows L2
variable [Tabs]
def tyD : D → String
  | .none => "NoneType"
  | .bool _ => "bool"
  | .int _ => "int"
  | .str _ => "str"
  | .list _ => "list"
  | .tuple _ => "tuple"
  | .dict _ => "dict"
theorem Dp.ty {K : PySem.W.Frag} {H : Hp} {v : V} {d : D} (h : Dp K H v d) : TyX K H v (.type (tyD d)) := by
  cases h with
  | non => exact .base .non
  | bl b => exact .base (.bl b)
  | int i => exact .base (.int i)
  | str x => exact .base (.str x)
  | lst hs _ =>
    rcases hs with (h | ⟨o, h⟩) | ⟨o, its, n, h1, h2, _⟩
    · exact .base (.lst h)
    · exact .base (.frz h)
    · exact .kList h1 h2
  | tup hs _ =>
    rcases hs with (h | ⟨o, h⟩) | ⟨o, its, n, h1, h2, _⟩
    · exact .base (.tup h)
    · exact .fTuple h
    · exact .kTuple h1 h2
def isT (T : String) (d : D) : Bool := tyD d == T || (tyD d == "bool" && T == "int")
def knownT : List String := ["bool", "int", "str", "list", "tuple"]
theorem kitB_tab : (["NoneType", "bool", "int", "str", "list", "tuple"].all fun a => knownT.all fun T => decide (kitB a T = some (a == T || (a == "bool" && T == "int")))) = true := by decide +kernel
theorem tyD_mem {K : PySem.W.Frag} {H : Hp} {v : V} {d : D} (h : Dp K H v d) : tyD d ∈ ["NoneType", "bool", "int", "str", "list", "tuple"] := by cases h <;> simp [tyD]
theorem kit_isT {K K' : PySem.W.Frag} {H : Hp} {v : V} {d : D} {T : String} (h : Dp K H v d) (hT : T ∈ knownT) : PySem.W.kitOne K' (.type (tyD d)) (.type T) = some (isT T d) := by
  have := List.all_eq_true.mp kitB_tab _ (tyD_mem h)
  exact kit_ty (of_decide_eq_true (List.all_eq_true.mp this T hT))
section
variable {X : Cx} {W : WX} {k : Nat} {m : Md} {pos p p2 apos : Pos} {a b c : Expr} {fa fb fc : En → R D}
def isiR (T : String) (f : En → R D) : En → R D := fun env => (f env).bind fun d => .ok (.bool (isT T d))
theorem de_isi {T : Str} {Ts : String} (ha : DE X W .h a fa) (hT : Ts ∈ knownT := by decide) (hg : Gl X "isinstance" := by rfl) (hm : X.mg "isinstance" = none) (hg2 : Gl X T := by rfl) (hm2 : X.mg T = none) (hb : bootBuiltins T = some (.type Ts)) (hn : T ≠ "__name__" := by decide) (hdb : (T == ("__debug__" : Str)) = false := by decide)
    (he : starEach [a, .Name T p2] X.env = (false, eval a X.env) :: starEach [.Name T p2] X.env := by rfl) (he2 : starEach [.Name T p2] X.env = (false, eval (.Name T p2) X.env) :: starEach [] X.env := by rfl) (hpl : (backTo pos (starEach [.Name T p2] X.env)).any (·.1) = false := by rfl) :
    DE X W m (.Call (.Name "isinstance" p) [a, .Name T p2] [] pos) (isiR Ts fa) :=
  (pe_callB call_isi hg hm PyProof.Rows.boot_isinstance (pa_cons ha (pa_cons (pe_bltn (v := .ty Ts) hg2 hm2 hb rfl hn hdb) pa_nil he2) he) (by decide) (by decide) he hpl).wk fun σ H Q ⟨B, F, env, r, q⟩ =>
    tD.bind r q fun v H1 F1 d a1 r1 q1 p1 => ⟨v, .ty Ts, _, _, _, rfl, .ty Ts, Dp.ty q1, kit_isT q1 hT, p1 _ _ _ (After.refl r1.fh) (Rp.bl _)⟩
def bitR (f : En → R D) : En → R D := fun env => (f env).bind fun d => match d with
  | .int i => .ok (.int (Builtin.Int.intBits i : Nat))
  | _ => .no
theorem de_bits (ha : DE X W .h a fa) (hbase : attributeBase a "bit_length" X.env (eval a X.env) = eval a X.env := by rfl) (hline : (apos.endLine == pos.line) = true := by rfl) : DE X W m (.Call (.Attribute a "bit_length" apos) [] [] pos) (bitR fa) :=
  (pe_bits ha hbase hline).wk fun σ H Q ⟨B, F, env, r, q⟩ => tD.bind r q fun v H1 F1 d a1 r1 q1 p1 => by
    cases d with
    | int i => exact ⟨i, q1.intI, p1 _ _ _ (After.refl r1.fh) (Rp.int _)⟩
    | _ => exact p1.elim
/-- a chain of two comparisons -/
theorem chain_core {op op' : CmpOp} {g h : D → D → R D} {r r' : R2} (ne : ∀ d e c, g d e ≠ .er c) (ne' : ∀ d e c, h d e ≠ .er c) (h2 : ∀ m, Op2 X.K r .h .h m g) (h2' : ∀ m, Op2 X.K r' .h .h m h) {σ : L2.St} {H : Hp} {Q : VK}
    (q : tD X.K (ecOf X.mg) W m (ch3 fa fb fc g h) σ H Q) : tChain r r' (tD X.K (ecOf X.mg) W .h fa) (tD X.K (ecOf X.mg) W .h fb) (tD X.K (ecOf X.mg) W .h fc) σ H Q := by
  obtain ⟨B, F, env, r0, q⟩ := q
  refine tD.bind r0 q fun v H1 F1 d a1 r1 q1 p1 => tD.bind r1 p1 fun u H2 F2 e a2 r2 q2 p2 => ?_
  refine h2 .f (ecOf X.mg) W σ F2 H2 v u d e _ r2.fh (q1.after a2) q2 (ne d e) ?_
  cases z : g d e with
  | er c => exact absurd z (ne d e c)
  | no => rw [z] at p2; exact p2
  | ok w =>
    rw [z] at p2
    intro v' H' F' a q
    cases w with
    | bool kb =>
      refine ⟨kb, q.blI, ?_⟩
      cases kb with
      | true =>
        rw [if_pos rfl]
        exact tD.bind (r2.after a) (PoE.after p2 a) fun w H4 F4 d4 a4 r4 q4 p4 => h2' m _ _ _ F4 H4 u w e d4 Q r4.fh ((q2.after a).after a4) q4 (ne' e d4) p4
      | false => rw [if_neg Bool.false_ne_true]; exact (PoE.after p2 a) _ _ _ (After.refl a.fh) (Rp.bl _)
    | _ => exact p2.elim
theorem de_ch {op op' : CmpOp} {g h : D → D → R D} (C : Cm X op g) (C' : Cm X op' h) (ha : DE X W .h a fa) (hb : DE X W .h b fb) (hc : DE X W .h c fc) (hm : lastMarks [op, op'] [b, c] = false := by rfl) : DE X W m (.Compare a [op, op'] [b, c] pos) (ch3 fa fb fc g h) := by
  obtain ⟨r, h1, h2⟩ := C.rule
  obtain ⟨r', h1', h2'⟩ := C'.rule
  exact (pe_chain h1 h1' ha hb hc hm).wk fun σ H Q q => chain_core (op := op) (op' := op') C.ne C'.ne h2 h2' q
/-- a bool as a test's answer -/
def tobR (f : En → R D) : En → R Bool := fun env => (f env).bind tob
theorem toT {K : PySem.W.Frag} {ec : Str → Value} {f : En → R D} {σ : L2.St} {H : Hp} {Q : Bool → Hp → Prop} (q : tT K ec W (tobR f) σ H Q) : tD K ec W .f f σ H (fun x H' => ∃ k, x = .bl k ∧ Q k H') := by
  obtain ⟨B, F, env, r, p⟩ := q
  refine ⟨B, F, env, r, ?_⟩
  unfold tobR at p
  cases e : f env with
  | er c => rw [e] at p; exact p
  | no => rw [e] at p; exact p
  | ok d =>
    rw [e] at p
    intro v H' F' a q
    cases d with
    | bool k => cases q; exact ⟨k, rfl, p H' F' a⟩
    | _ => exact p.elim
theorem dt_ch {op op' : CmpOp} {g h : D → D → R D} (C : Cm X op g) (C' : Cm X op' h) (ha : DE X W .h a fa) (hb : DE X W .h b fb) (hc : DE X W .h c fc) (hm : lastMarks [op, op'] [b, c] = false := by rfl) : DT X W (.Compare a [op, op'] [b, c] pos) (tobR (ch3 fa fb fc g h)) := by
  obtain ⟨r, h1, h2⟩ := C.rule
  obtain ⟨r', h1', h2'⟩ := C'.rule
  exact (pt_chain h1 h1' ha hb hc hm).wk fun σ H Q q => chain_core (op := op) (op' := op') C.ne C'.ne h2 h2' (toT q)
/-- [..] * n -/
def repD (s : S) (d : D) : R S := match s, d with
  | .ow ss, .int i => match allF ss with
    | some ds => if b62 i = true ∧ ds.length * i.toNat ≤ 1000000 then .ok (.ow ((List.replicate i.toNat ds).flatten.map .fr)) else .no
    | none => .no
  | _, _ => .no
def repR (f : En → R S) (g : En → R D) : En → R S := fun env => (f env).bind fun s => (g env).bind fun d => repD s d
theorem DpAll.rep {K : PySem.W.Frag} {F : Hp} {vs : List V} {ds : List D} (h : DpAll K F vs ds) : ∀ n : Nat, DpAll K F (List.replicate n vs).flatten (List.replicate n ds).flatten
  | 0 => .nil
  | n + 1 => by
    rw [List.replicate_succ, List.replicate_succ, List.flatten_cons, List.flatten_cons]
    exact h.app (DpAll.rep h n)
theorem do_rep {fo : En → R S} (ha : DO X W a fo) (hb : DE X W .h b fb) : DO X W (.BinOp a .Mult b pos) (repR fo fb) :=
  (pe_op op_rep ha hb).wk fun σ H Q ⟨B, F, env, r, q⟩ => by
    refine ⟨B, F, env, r, ?_⟩
    unfold repR at q
    cases e : fo env with
    | er c => rw [e] at q; exact q
    | no => rw [e] at q; exact q
    | ok s =>
      rw [e] at q
      intro v H1 F1 as a1 o n fr
      have q : PoO X.K (ecOf X.mg) W F H σ Q ((fb env).bind fun d => repD s d) := q
      refine tD.bindO (r.after a1) (PoO.after q a1) fun u H2 F2 d a2 r2 q2 p2 => ?_
      cases s with
      | fr _ => exact p2.elim
      | tu _ => exact p2.elim
      | ow ss =>
        cases d with
        | int i =>
          simp only [repD] at p2
          cases ef : allF ss with
          | none => rw [ef] at p2; exact p2.elim
          | some ds =>
            rw [ef] at p2
            dsimp only at p2
            split at p2
            · rename_i hc
              cases o with
              | ow o1 o2 o3 =>
                have dp := o3.allF ef
                have hb := b62_of hc.1
                have k2 := a2.keepO ⟨o1, _, o2, rfl⟩
                have dl := dp.len
                refine ⟨_, i, _, rfl, q2.intI, k2.2.trans o2, by omega, by omega, by rw [dl]; exact Nat.le_trans hc.2 million, fun l nl => ?_⟩
                exact p2 _ _ _ [l] (After.newO r2.fh nl) (.ow (as := []) (r2.fh.free nl) upd_same (OwAll.ofDp (DpAll.rep (DpAll.mono a2.ff _ _ dp) _))) (by simp) (fun x hx => by
                  rcases List.mem_cons.mp hx with e | e
                  · subst e; exact nl
                  · cases e)
            · exact p2.elim
        | _ => exact p2.elim
end

/-! ### what stands behind the top -/
/-- a def as it stands -/
structure Fd (K : PySem.W.Frag) (mg : Str → Option Value) (x : Str) (st : Stmt) (ps : List Str) : Prop where
  ex : ∃ f fd, Fun K x x st f fd ∧ mg x = some (.ref f) ∧ Binds K fd ps []
/-- a name that may be called, and its outcome -/
structure Cal (P : Program) (w : World) (K : PySem.W.Frag) (mg : Str → Option Value) (base : Heap) (k : Nat) (x : Str) (ps : List Str) (g : List D → R S) : Prop where
  ex : ∃ f fd, FnG P w K mg base k f fd ps g ∧ mg x = some (.ref f) ∧ PySem.W.keepIn K (.ref f) = true ∧ Binds K fd ps [] ∧ ∃ oc od osl, K.lookup f = some ⟨oc, od, .func fd, osl⟩
theorem Cal.imp {P : Program} {w : World} {K : PySem.W.Frag} {mg : Str → Option Value} {base : Heap} {k : Nat} {x : Str} {ps : List Str} {g g' : List D → R S} (c : Cal P w K mg base k x ps g) (h : ∀ ds, ds.length = ps.length → g' ds = .no ∨ g ds = g' ds) : Cal P w K mg base k x ps g' := by
  obtain ⟨f, fd, h1, h2⟩ := c.ex
  exact ⟨f, fd, h1.imp h, h2⟩
/-- a def's name, from its body -/
theorem cal_mk {P : Program} {w : World} {K : PySem.W.Frag} {mg : Str → Option Value} {base : Heap} {x : Str} {st : Stmt} {N ps : List Str} {k : Nat} {T : En → SR} (d : Fd K mg x st ps) (S : FnScope N ps (defScope st))
    (hT : ∀ (f0 : Addr) (cdv : Value) (A : Around) (outer : List Env) (s : Shared) (H : Hp) (E : XK),
      Cxt (cxOf (L2.CX P w) P w K mg base N x (defScope st) f0 cdv A outer s H E) (fun cls d _ H' => E cls d H') k → DSs (cxOf (L2.CX P w) P w K mg base N x (defScope st) f0 cdv A outer s H E) (fun cls d _ H' => E cls d H') (defBody st) T) :
    Cal P w K mg base (k + 1) x ps (bodyR N ps.length T) := by
  obtain ⟨f, fd, h1, h2, h3⟩ := d.ex
  obtain ⟨oc, od, kV, doc, pm, an, cdv, ct, osl, _, lk, _⟩ := h1.ex
  exact ⟨f, fd, fnG_mk h1 S hT, h2, h1.kp, h3, oc, od, osl, lk⟩
section
variable {X : Cx} {W : WX} {j k : Nat} {ps : List Str} {g : List D → R S} {x : Str} {p pos : Pos} {e : Expr} {es : List Expr} {fs : En → R (List D)} {ms : List Md}
theorem do_cal (c : Cal X.prog X.w X.K X.mg X.base j x ps g) (cx : Cxt X W k) (hk : j ≤ k) (ha : DA X W ms (e :: es) fs) (hms : allf ms = true) (hn : ∀ ds env, fs env = .ok ds → ds.length = ps.length) (hg : Gl X x := by rfl) (hdb : (x == ("__debug__" : Str)) = false := by decide)
    (he : starEach (e :: es) X.env = (false, eval e X.env) :: starEach es X.env := by rfl) (hpl : (backTo pos (starEach es X.env)).any (·.1) = false := by rfl) : DO X W (.Call (.Name x p) (e :: es) [] pos) (cal fs g) := by
  obtain ⟨f, fd, h1, h2, h3, h4, _⟩ := c.ex
  exact do_call h1 cx hk hg h2 h3 h4 ha hms (.inr trivial) hn hdb he hpl
end
/-- an own error class, with all that handlers ask -/
structure ErA (K : PySem.W.Frag) (mg : Str → Option Value) (x : Str) (C : Addr) : Prop where
  e : ErC K mg x C
  i : PySem.W.isClsIn K C = true
  x : ExcC K C
structure Er (K : PySem.W.Frag) (mg : Str → Option Value) (x : Str) : Prop where
  ex : ∃ C, ErA K mg x C
theorem ds_rs {X : Cx} {W : WX} {k : Nat} {pos pos' p p2 : Pos} {x msg : Str} {j : Nat} (cx : Cxt X W k) (E : Er X.K X.mg x) (hg : Gl X x := by rfl) (hdb : (x == ("__debug__" : Str)) = false := by decide) : DS X W (.Raise (some (.Call (.Name x p) [.Constant (.str msg) j p2] [] pos)) none pos') (erS x) := by
  obtain ⟨C, h⟩ := E.ex
  exact ds_raise cx h.e hg hdb
/-- whether an error of the class c is one of the class d -/
def SubO (K : PySem.W.Frag) (mg : Str → Option Value) (c d : Str) (b : Bool) : Prop := PySem.W.subIn K (ecOf mg c) (ecOf mg d) = some b
theorem exm_sub {K : PySem.W.Frag} {mg : Str → Option Value} {c d : Str} {b : Bool} (E : Er K mg d) (h : SubO K mg c d b) : PySem.W.exmOne K (ecOf mg c) (ecOf mg d) = some b := by
  obtain ⟨C, e⟩ := E.ex
  unfold SubO at h
  rw [e.e.ec] at h ⊢
  have e1 : (PySem.W.subIn K (.ref C) (.type "BaseException") == some true) = true := by rw [e.e.b] <;> rfl
  have e2 : ((PySem.W.clsIn K C).isSome && PySem.W.typeIn K (.ref C) == some (.type "type")) = true := by
    have z : (PySem.W.clsIn K C).isSome = true := e.i
    rw [z, e.e.t] <;> rfl
  exact (if_pos e1).trans ((if_pos e2).trans h)
theorem names_own {X : Cx} {d : Str} (E : Er X.K X.mg d) (hg : Gl X d := by rfl) (hdb : (d == ("__debug__" : Str)) = false := by decide) : Names X d (ecOf X.mg d) := by
  obtain ⟨C, e⟩ := E.ex
  exact ⟨hg, hdb, .inl (by rw [e.e.ec]; exact e.e.g)⟩
theorem kit_own {K : PySem.W.Frag} {mg : Str → Option Value} {c d : Str} {b : Bool} (E : Er K mg d) (h : SubO K mg c d b) (hr : SubO K mg d d true) : PySem.W.kitOne K (ecOf mg c) (ecOf mg d) = some b := by
  obtain ⟨C, e⟩ := E.ex
  unfold SubO at h hr
  rw [e.e.ec] at h hr ⊢
  unfold PySem.W.kitOne
  split
  · rename_i z
    have z' : ecOf mg c = .ref C := beq_iff_eq.mp z
    rw [z', hr] at h
    exact h
  · unfold PySem.W.kitCls
    have e2 : ((PySem.W.clsIn K C).isSome && PySem.W.typeIn K (.ref C) == some (.type "type")) = true := by
      have z : (PySem.W.clsIn K C).isSome = true := e.i
      rw [z, e.e.t] <;> rfl
    exact (if_pos e2).trans h
/-- the law's def over every base, from its name's promise -/
theorem top_of {P : Program} {w : World} {K : PySem.W.Frag} {mg : Str → Option Value} {k : Nat} {x : Str} {st : Stmt} {ps : List Str} {g : List D → R S} {fa f : Addr} {fd : FuncData} (hfa : mg x = some (.ref fa)) (h1 : Fun K x x st f fd) (h2 : mg x = some (.ref f))
    (h : ∀ base : Heap, K.In base → base.Ns mainGlobals mg → Cal P w K mg base k x ps g) : ∀ base : Heap, K.In base → base.Ns mainGlobals mg → FnG P w K mg base k fa fd ps g := fun base hK hN => by
  obtain ⟨f', fd', q1, q2, _, _, oc', od', osl', lk'⟩ := (h base hK hN).ex
  obtain ⟨oc, od, kV, doc, pm, an, cdv, ct, osl, _, lk, _⟩ := h1.ex
  rw [h2] at q2 hfa
  cases q2
  cases hfa
  rw [lk] at lk'
  cases lk'
  exact q1
end DL
namespace DL
open PySem PySem.Spec PyProof.Rows L2
variable [Tabs]
def cI (i : Int) : En → R D := fun _ => .ok (.int i)
def cB (b : Bool) : En → R D := fun _ => .ok (.bool b)
def cS (x : Str) : En → R D := fun _ => .ok (.str x)
def cN : En → R D := fun _ => .ok .none
def negR (f : En → R D) : En → R D := fun env => (f env).bind negD
def truR (f : En → R D) : En → R Bool := fun env => (f env).bind trD
def rtN : En → SR := fun _ => .rt (.fr .none)
def bkS : En → SR := fun env => .bk env
def ctS : En → SR := fun env => .ct env
def SR.fin (is : List Nat) : SR → SR
  | .nx e => .nx (fgE e is)
  | .bk e => .bk (fgE e is)
  | .ct e => .ct (fgE e is)
  | .er c e => .er c e
  | .rt s => .rt s
  | .no => .no
def fnS (is : List Nat) (T : En → SR) : En → SR := fun env => (T env).fin is
def fuel0 : En → Nat := fun _ => 1000000
section
variable {X : Cx} {W : WX} {k : Nat} {m : Md} {pos p p2 : Pos} {sts : List Stmt} {T U : En → SR}
theorem dss_fin (is : List Nat) (h : DSs X W sts T) : DSs X W sts (fnS is T) := h.wk fun D σ H ⟨B, F, env, r, q⟩ => by
  refine ⟨B, F, env, r, ?_⟩
  unfold fnS at q
  cases e : T env with
  | nx e1 => rw [e] at q; exact fun σ2 H2 F2 a r2 => q σ2 H2 F2 a (r2.forgets is)
  | bk e1 => rw [e] at q; exact fun σ2 H2 F2 a r2 => q σ2 H2 F2 a (r2.forgets is)
  | ct e1 => rw [e] at q; exact fun σ2 H2 F2 a r2 => q σ2 H2 F2 a (r2.forgets is)
  | er c e1 => rw [e] at q; exact q
  | rt s => rw [e] at q; exact q
  | no => rw [e] at q; exact q
theorem dss_eq (h : DSs X W sts T) (e : ∀ env, T env = U env) : DSs X W sts U := by
  have : T = U := funext e
  rw [← this]; exact h
def SubB (K : PySem.W.Frag) (mg : Str → Option Value) (c : Str) (d : String) (b : Bool) : Prop := PySem.W.subIn K (ecOf mg c) (.type d) = some b
def GI (mg : Str → Option Value) (x : Str) (n : Int) : Prop := ∃ t, mg x = some (.int n t)
theorem de_globI {x : Str} {n : Int} (g : GI X.mg x n) (hg : Gl X x) (hdb : (x == ("__debug__" : Str)) = false := by decide) : DE X W m (.Name x pos) (fun _ => .ok (.int n)) := by
  obtain ⟨t, e⟩ := g
  exact de_glob (v := .int n) hg e ⟨t, rfl⟩ (fun F => .int n) hdb
theorem hu_mark {A : Around} {v : Option Value} {k : Nat} (r : Room k A) : (A.mark v).units + 65 < cLine := by
  have := room64 r
  exact this
theorem de_isO {a : Addr} {oe : Obj} {pn : List (Addr × Obj)} {x d cls : Str} {p0 p1 : Pos} {b : Bool} (i : Nat) (E : Er X.K X.mg cls) (hz : Zc (ecOf X.mg cls) none oe) (hf : ∃ vs, oe.data = .fields vs)
    (hn : (X.suite a ((a, oe) :: pn)).N[i]? = some x) (hv : Vis (X.suite a ((a, oe) :: pn)).env.scope x) (hd : (x == ("__debug__" : Str)) = false) (hcd : (x == ("__classdict__" : Str)) = false)
    (hk : PySem.W.kitOne X.K (ecOf X.mg cls) (ecOf X.mg d) = some b) (nm : Names X d (ecOf X.mg d)) (Ed : Er X.K X.mg d)
    (hg : Gl (X.suite a ((a, oe) :: pn)) "isinstance") (hm : X.mg "isinstance" = none)
    (he : starEach [.Name x p1, .Name d p2] (X.suite a ((a, oe) :: pn)).env = (false, eval (.Name x p1) (X.suite a ((a, oe) :: pn)).env) :: starEach [.Name d p2] (X.suite a ((a, oe) :: pn)).env)
    (he2 : starEach [.Name d p2] (X.suite a ((a, oe) :: pn)).env = (false, eval (.Name d p2) (X.suite a ((a, oe) :: pn)).env) :: starEach [] (X.suite a ((a, oe) :: pn)).env)
    (hpl : (backTo pos (starEach [.Name d p2] (X.suite a ((a, oe) :: pn)).env)).any (·.1) = false) :
    DE (X.suite a ((a, oe) :: pn)) W m (.Call (.Name "isinstance" p0) [.Name x p1, .Name d p2] [] pos) (isiS i a b) := by
  obtain ⟨C, e⟩ := E.ex
  obtain ⟨C2, e2⟩ := Ed.ex
  rw [e.e.ec] at hz
  rw [e.e.ec, e2.e.ec] at hk
  exact de_isE i e.x hz hf hn hv hd hcd (pe_glob (v := .ref C2) nm.1 e2.e.g rfl nm.2.1) (.own C2) hk hg hm he he2 hpl
theorem de_isB {a : Addr} {oe : Obj} {pn : List (Addr × Obj)} {x cls d : Str} {ds : String} {p0 p1 : Pos} {b : Bool} (i : Nat) (E : Er X.K X.mg cls) (hz : Zc (ecOf X.mg cls) none oe) (hf : ∃ vs, oe.data = .fields vs)
    (hn : (X.suite a ((a, oe) :: pn)).N[i]? = some x) (hv : Vis (X.suite a ((a, oe) :: pn)).env.scope x) (hd : (x == ("__debug__" : Str)) = false) (hcd : (x == ("__classdict__" : Str)) = false)
    (hk : SubB X.K X.mg cls ds b) (hm2 : X.mg d = none) (hb : bootBuiltins d = some (.type ds) ∧ PySem.W.kitMeta ds = true)
    (hg : Gl (X.suite a ((a, oe) :: pn)) "isinstance") (hm : X.mg "isinstance" = none)
    (he : starEach [.Name x p1, .Name d p2] (X.suite a ((a, oe) :: pn)).env = (false, eval (.Name x p1) (X.suite a ((a, oe) :: pn)).env) :: starEach [.Name d p2] (X.suite a ((a, oe) :: pn)).env)
    (he2 : starEach [.Name d p2] (X.suite a ((a, oe) :: pn)).env = (false, eval (.Name d p2) (X.suite a ((a, oe) :: pn)).env) :: starEach [] (X.suite a ((a, oe) :: pn)).env)
    (hpl : (backTo pos (starEach [.Name d p2] (X.suite a ((a, oe) :: pn)).env)).any (·.1) = false)
    (hg2 : Gl (X.suite a ((a, oe) :: pn)) d := by rfl) (hnn : d ≠ "__name__" := by decide) (hdb : (d == ("__debug__" : Str)) = false := by decide) :
    DE (X.suite a ((a, oe) :: pn)) W m (.Call (.Name "isinstance" p0) [.Name x p1, .Name d p2] [] pos) (isiS i a b) := by
  obtain ⟨C, e⟩ := E.ex
  rw [e.e.ec] at hz
  unfold SubB at hk
  rw [e.e.ec] at hk
  refine de_isE i e.x hz hf hn hv hd hcd (pe_bltn (v := .ty ds) hg2 hm2 hb.1 rfl hnn hdb) (.ty ds) ?_ hg hm he he2 hpl
  exact (if_pos hb.2).trans hk
/-! repr -/
def rRepr (K : PySem.W.Frag) : List V → Hp → VK → Prop := fun xs H Q => ∃ a d, xs = [.ref a] ∧ Dp K H (.ref a) d ∧ d.showable = true ∧ d.hasDict = false ∧ d.depth ≤ 64 ∧ d.shown.length ≤ sizeLine ∧ Q (.str d.shown) H
theorem call_repr (hg : X.A.guards = some []) (hu : X.A.units + 200 < cLine) : CallR X (.builtin "repr") (rRepr X.K) := by
  intro pins s σ H xs us Q I r h
  obtain ⟨a, d, rfl, hd, h1, h2, h3, h4, q⟩ := h
  obtain ⟨u, rfl, ru⟩ := vals1 r
  cases ru
  obtain ⟨as, rd⟩ := Dp.reads I d _ _ hd rfl
  exact repr_of_reads' rd h1 (PyData.noDict_hsm h2) hg (by omega) (fun _ _ e => e) (fun h' u tk hk => ⟨.str _, H, I.kept hk, ⟨u, rfl⟩, q⟩) h4
theorem call_reprN : CallR X (.builtin "repr") (fun xs H Q => xs = [.non] ∧ Q (.str "None") H) := by
  intro pins s σ H xs us Q I r h
  obtain ⟨rfl, q⟩ := h
  obtain ⟨u, rfl, ru⟩ := vals1 r
  obtain rfl : u = Value.none := ru
  exact PySem.P.repr_of_none ⟨.str _, H, I.tok _, ⟨_, rfl⟩, q⟩
theorem call_reprA (hg : X.A.guards = some []) (hu : X.A.units + 200 < cLine) : CallR X (.builtin "repr") (fun xs H Q => rRepr X.K xs H Q ∨ (xs = [.non] ∧ Q (.str "None") H) ∨ ∃ i, xs = [.int i] ∧ i.natAbs.log2 < 1920 ∧ Q (.str (toString i)) H) := by
  intro pins s σ H xs us Q I r h
  rcases h with h | h | h
  · exact call_repr hg hu pins s σ H xs us Q I r h
  · exact call_reprN pins s σ H xs us Q I r h
  · exact SkE.call_repr_int pins s σ H xs us Q I r h
def reprD : D → R D
  | .list ds => if (PyData.list ds).showable = true ∧ (PyData.list ds).hasDict = false ∧ (PyData.list ds).depth ≤ 64 ∧ (PyData.list ds).shown.length ≤ sizeLine then .ok (.str (PyData.list ds).shown) else .no
  | .tuple ds => if (PyData.tuple ds).showable = true ∧ (PyData.tuple ds).hasDict = false ∧ (PyData.tuple ds).depth ≤ 64 ∧ (PyData.tuple ds).shown.length ≤ sizeLine then .ok (.str (PyData.tuple ds).shown) else .no
  | .none => .ok (.str "None")
  | .int i => if i.natAbs.log2 < 1920 then .ok (.str (toString i)) else .no
  | _ => .no
theorem bi_reprU (hgd : X.A.guards = some []) (hun : X.A.units + 200 < cLine) : Bi X (.builtin "repr") [.h] m (one reprD) := ⟨one_ne fun d c => by
    unfold reprD
    repeat' split
    all_goals exact (fun z => nomatch z), _, call_reprA hgd hun, fun ec W σ F H vs ds Q s r p => by
  cases r with
  | cons q t =>
    cases t
    rename_i v d
    have q : Dp X.K H v d := q
    cases d with
    | list ds =>
      simp only [one, reprD] at p
      split at p
      · rename_i hc
        cases q with
        | lst h1 h2 => exact .inl ⟨_, _, rfl, .lst h1 h2, hc.1, hc.2.1, hc.2.2.1, hc.2.2.2, p _ _ _ (After.refl s) (Rp.str _)⟩
      · exact p.elim
    | tuple ds =>
      simp only [one, reprD] at p
      split at p
      · rename_i hc
        cases q with
        | tup h1 h2 => exact .inl ⟨_, _, rfl, .tup h1 h2, hc.1, hc.2.1, hc.2.2.1, hc.2.2.2, p _ _ _ (After.refl s) (Rp.str _)⟩
      · exact p.elim
    | none =>
      cases q
      exact .inr (.inl ⟨rfl, p _ _ _ (After.refl s) (Rp.str _)⟩)
    | int i =>
      simp only [one, reprD] at p
      split at p
      · rename_i hc
        cases q
        exact .inr (.inr ⟨_, rfl, hc, p _ _ _ (After.refl s) (Rp.str _)⟩)
      · exact p.elim
    | _ => exact p.elim⟩
theorem un_room {A : Around} {k : Nat} (r : Room k A) : A.units + 200 < cLine := by have := r.un; omega
theorem bi_repr (c : Cxt X W k) : Bi X (.builtin "repr") [.h] m (one reprD) := bi_reprU c.gd (un_room c.rm)
theorem un_mark {A : Around} {v : Option Value} {k : Nat} (r : Room k A) : (A.mark v).units + 200 < cLine := un_room (A := A) r
theorem gd_mark {A : Around} {v : Option Value} (h : A.guards = some []) : (A.mark v).guards = some [] := h
end
end DL
namespace DL
open PySem PySem.Spec PyProof.Rows L2
/-! ### reckoning with outcomes -/
@[simp] theorem R.bind_ok {A B : Type} (a : A) (f : A → R B) : (R.ok a).bind f = f a := rfl
@[simp] theorem R.bind_er {A B : Type} (c : Str) (f : A → R B) : (R.er c : R A).bind f = .er c := rfl
@[simp] theorem R.bind_no {A B : Type} (f : A → R B) : (R.no : R A).bind f = .no := rfl
@[simp] theorem R.st_ok {A : Type} (a : A) (env : En) (k : A → SR) : (R.ok a).st env k = k a := rfl
@[simp] theorem R.st_er {A : Type} (c : Str) (env : En) (k : A → SR) : (R.er c : R A).st env k = .er c env := rfl
@[simp] theorem R.st_no {A : Type} (env : En) (k : A → SR) : (R.no : R A).st env k = .no := rfl
@[simp] theorem sq_nx (e : En) (k : En → SR) : (SR.nx e).sq k = k e := rfl
@[simp] theorem sq_rt (s : S) (k : En → SR) : (SR.rt s).sq k = .rt s := rfl
@[simp] theorem sq_bk (e : En) (k : En → SR) : (SR.bk e).sq k = .bk e := rfl
@[simp] theorem sq_ct (e : En) (k : En → SR) : (SR.ct e).sq k = .ct e := rfl
@[simp] theorem sq_er (c : Str) (e : En) (k : En → SR) : (SR.er c e).sq k = .er c e := rfl
@[simp] theorem sq_no (k : En → SR) : SR.no.sq k = .no := rfl
section
variable (env : En) (i j : Nat) (f g h : En → R D) (fo : En → R S) (t u : En → R Bool) (T U : En → SR) (fs : En → R (List D)) (is : List Nat)
@[simp] theorem e_nxS : nxS env = .nx env := rfl
@[simp] theorem e_bkS : bkS env = .bk env := rfl
@[simp] theorem e_ctS : ctS env = .ct env := rfl
@[simp] theorem e_rtN : rtN env = .rt (.fr .none) := rfl
@[simp] theorem e_sqS : sqS T U env = (T env).sq U := rfl
@[simp] theorem e_exS : exS f env = (f env).st env fun _ => .nx env := rfl
@[simp] theorem e_rtS : rtS f env = (f env).st env fun d => .rt (.fr d) := rfl
@[simp] theorem e_rtO : rtO fo env = (fo env).st env fun s => .rt s := rfl
@[simp] theorem e_ifS : ifS t T U env = (t env).st env fun b => match b with | true => T env | false => U env := rfl
@[simp] theorem e_asS : asS i f env = (f env).st env fun d => .nx (env.set i (some (.v (.fr d)))) := rfl
@[simp] theorem e_asO : asO i fo env = (fo env).st env fun s => .nx (env.set i (some (.v s))) := rfl
@[simp] theorem e_forS {b : D → En → Option En} : forS fs b T env = (fs env).st env fun ds => forF b T ds env := rfl
@[simp] theorem e_fnS : fnS is T env = (T env).fin is := rfl
@[simp] theorem e_fgS : fgS is T env = T (fgE env is) := rfl
@[simp] theorem e_fzS : fzS i T env = T (fzE env i) := rfl
@[simp] theorem e_erS {x : Str} : erS x env = .er x env := rfl
@[simp] theorem fgE_nil : fgE env [] = env := rfl
@[simp] theorem fgE_cons : fgE env (i :: is) = (fgE env is).set i none := rfl
@[simp] theorem fin_nx : (SR.nx env).fin is = .nx (fgE env is) := rfl
@[simp] theorem fin_bk : (SR.bk env).fin is = .bk (fgE env is) := rfl
@[simp] theorem fin_ct : (SR.ct env).fin is = .ct (fgE env is) := rfl
@[simp] theorem fin_rt {s : S} : (SR.rt s).fin is = .rt s := rfl
@[simp] theorem fin_er {c : Str} : (SR.er c env).fin is = .er c env := rfl
@[simp] theorem fin_no : SR.no.fin is = .no := rfl
@[simp] theorem e_b2 {k : D → D → R D} : b2 f g k env = (f env).bind fun x => (g env).bind fun y => k x y := rfl
@[simp] theorem e_t2 {k : D → D → R D} : t2 f g k env = (f env).bind fun x => (g env).bind fun y => (k x y).bind tob := rfl
@[simp] theorem e_cal {A : Type} {k : List D → R A} : cal fs k env = (fs env).bind k := rfl
@[simp] theorem e_nilA : nilA env = .ok [] := rfl
@[simp] theorem e_consA : consA f fs env = (f env).bind fun d => (fs env).bind fun ds => .ok (d :: ds) := rfl
@[simp] theorem e_tupR : tupR fs env = (fs env).bind fun ds => if ds.length ≤ 1000 then .ok (.tuple ds) else .no := rfl
@[simp] theorem e_lstR : lstR fs env = (fs env).bind fun ds => if ds.length ≤ 1000 then .ok (.ow (ds.map .fr)) else .no := rfl
@[simp] theorem e_unO : unO fo env = (fo env).bind fun s => .ok s.toD := rfl
@[simp] theorem e_frR : frR f env = (f env).bind fun d => .ok (.fr d) := rfl
@[simp] theorem e_scR : scR f env = (f env).bind fun d => if sca d = true then .ok d else .no := rfl
@[simp] theorem e_seqR : seqR f env = (f env).bind seqD := rfl
@[simp] theorem e_cI {n : Int} : cI n env = .ok (.int n) := rfl
@[simp] theorem e_cB {n : Bool} : cB n env = .ok (.bool n) := rfl
@[simp] theorem e_cS {n : Str} : cS n env = .ok (.str n) := rfl
@[simp] theorem e_cN : cN env = .ok .none := rfl
@[simp] theorem e_negR : negR f env = (f env).bind negD := rfl
@[simp] theorem e_truR : truR f env = (f env).bind trD := rfl
@[simp] theorem e_tobR : tobR f env = (f env).bind tob := rfl
@[simp] theorem e_andT : andT t u env = (t env).bind fun k => match k with | true => u env | false => .ok false := rfl
@[simp] theorem e_orT : orT t u env = (t env).bind fun k => match k with | true => .ok true | false => u env := rfl
@[simp] theorem e_notT : notT t env = (t env).bind fun k => .ok (!k) := rfl
@[simp] theorem e_ifD : ifD t f g env = (t env).bind fun k => match k with | true => f env | false => g env := rfl
@[simp] theorem e_andV : andV f g env = (f env).bind fun k => match k with | .bool true => g env | .bool false => .ok (.bool false) | _ => .no := rfl
@[simp] theorem e_orV : orV f g env = (f env).bind fun k => match k with | .bool true => .ok (.bool true) | .bool false => g env | _ => .no := rfl
@[simp] theorem e_notV : notV f env = (f env).bind fun k => match k with | .bool k => .ok (.bool (!k)) | _ => .no := rfl
@[simp] theorem e_bitR : bitR f env = (f env).bind fun d => match d with | .int i => .ok (.int (Builtin.Int.intBits i : Nat)) | _ => .no := rfl
@[simp] theorem e_isiR {T : String} : isiR T f env = (f env).bind fun d => .ok (.bool (isT T d)) := rfl
@[simp] theorem e_repR : repR fo f env = (fo env).bind fun s => (f env).bind fun d => repD s d := rfl
@[simp] theorem e_slR {fl fh : FO} {k : D → Option Int → Option Int → R S} : slR f fl fh k env = (f env).bind fun x => (fl env).bind fun l => (fh env).bind fun h => k x l h := rfl
@[simp] theorem e_noneO : noneO env = .ok none := rfl
@[simp] theorem e_someO : someO f env = (f env).bind opI := rfl
@[simp] theorem e_ch3 {k l : D → D → R D} : ch3 f g h k l env = (f env).bind fun x => (g env).bind fun y => (k x y).bind fun z => match z with | .bool true => (h env).bind fun w => l y w | .bool false => .ok (.bool false) | _ => .no := rfl
@[simp] theorem e_compR {vs : List Nat} {b : D → En → Option En} : compR vs fs b t fo env = (fs env).bind fun ds => if ds.length ≤ 1000000 then (match compF b t fo (wipeE env vs) ds with | .ok ss => .ok (.ow ss) | _ => .no) else .no := rfl
@[simp] theorem e_yesT : yesT env = .ok true := rfl
@[simp] theorem e_asG {b : D → En → Option En} : asG b f env = (f env).st env fun d => match b d env with | some e => .nx e | none => .no := rfl
@[simp] theorem e_parS : parS i j fs env = (fs env).st env fun ds => match ds with | [d, d'] => .nx ((env.set i (some (.v (.fr d)))).set j (some (.v (.fr d')))) | _ => .no := rfl
@[simp] theorem wipeE_nil : wipeE env [] = env := rfl
@[simp] theorem wipeE_cons : wipeE env (i :: is) = (wipeE env is).set i none := rfl
@[simp] theorem e_setN (d : D) : setN i d env = some (env.set i (some (.v (.fr d)))) := rfl
end
section
variable (d e : D) (i j : Int) (x : Option Sl) (s : S) (ss : List S) (env : En) (k : Nat)
@[simp] theorem vf_z : vf 0 (some (.v (.fr d)) :: env) = .ok d := rfl
@[simp] theorem vf_s : vf (k + 1) (x :: env) = vf k env := by unfold vf; rw [List.getElem?_cons_succ]
@[simp] theorem vh_z : vh 0 (some (.v s) :: env) = .ok s.toD := rfl
@[simp] theorem vh_s : vh (k + 1) (x :: env) = vh k env := by unfold vh; rw [List.getElem?_cons_succ]
@[simp] theorem vq_zf : vq 0 (some (.v (.fr d)) :: env) = .ok d := rfl
@[simp] theorem vq_zo : vq 0 (some (.v (.ow ss)) :: env) = match allF ss with | some ds => .ok (.list ds) | none => .no := rfl
@[simp] theorem vq_s : vq (k + 1) (x :: env) = vq k env := by unfold vq; rw [List.getElem?_cons_succ]
@[simp] theorem rtV_z : rtV 0 (some (.v s) :: env) = .rt s := rfl
@[simp] theorem rtV_s : rtV (k + 1) (x :: env) = rtV k env := by unfold rtV; rw [List.getElem?_cons_succ]
@[simp] theorem endR_rt : endR (.rt s) = .ok s := rfl
@[simp] theorem endR_nx : endR (.nx env) = .ok (.fr .none) := rfl
@[simp] theorem endR_er (c : Str) : endR (.er c env) = .er c := rfl
@[simp] theorem toD_fr : (S.fr d).toD = d := by rw [S.toD]
@[simp] theorem toD_ow : (S.ow ss).toD = .list (ss.map S.toD) := by rw [S.toD, toDs_map]
@[simp] theorem allF_map (ds : List D) : allF (ds.map .fr) = some ds := by
  induction ds with
  | nil => rfl
  | cons d ds ih => rw [List.map_cons, allF, ih]; rfl
@[simp] theorem add_i : addD (.int i) (.int j) = .ok (.int (i + j)) := rfl
@[simp] theorem sub_i : subD (.int i) (.int j) = .ok (.int (i - j)) := rfl
theorem mul_i (h : CMulX i j) : mulD (.int i) (.int j) = .ok (.int (i * j)) := by show (if CMulX i j then _ else _) = _; rw [if_pos h]
theorem fdiv_i (h : CFd i j) : fdivD (.int i) (.int j) = .ok (.int (i.fdiv j)) := by show (if CFd i j then _ else _) = _; rw [if_pos h]
theorem mod_i (h : j ≠ 0) : modD (.int i) (.int j) = .ok (.int (i.fmod j)) := by show (if j ≠ 0 then _ else _) = _; rw [if_pos h]
theorem pow_i (h : CPow i j) : powD (.int i) (.int j) = .ok (.int (i ^ j.toNat)) := by show (if CPow i j then _ else _) = _; rw [if_pos h]
theorem shr_i (h : 0 ≤ j) : shrD (.int i) (.int j) = .ok (.int (i / 2 ^ j.toNat)) := by show (if 0 ≤ j then _ else _) = _; rw [if_pos h]
@[simp] theorem and_i : andD (.int i) (.int j) = .ok (.int (Builtin.bitAnd i j)) := rfl
@[simp] theorem neg_i : negD (.int i) = .ok (.int (-i)) := rfl
@[simp] theorem lt_i : ltD (.int i) (.int j) = .ok (.bool (decide (i < j))) := rfl
@[simp] theorem le_i : leD (.int i) (.int j) = .ok (.bool (decide (i ≤ j))) := rfl
@[simp] theorem gt_i : gtD (.int i) (.int j) = .ok (.bool (decide (j < i))) := rfl
@[simp] theorem ge_i : geD (.int i) (.int j) = .ok (.bool (decide (j ≤ i))) := rfl
theorem sh_i : SeqAt.shaped (.int i) = true := by
  unfold SeqAt.shaped
  simp [PyData.canLay0, PyData.depth]
@[simp] theorem eq_i : eqD (.int i) (.int j) = .ok (.bool (i == j)) := by
  unfold eqD
  rw [if_pos ⟨sh_i i, sh_i j⟩]
  simp [PyData.eqv]
@[simp] theorem ne_i : neD (.int i) (.int j) = .ok (.bool (!(i == j))) := by
  unfold neD
  rw [if_pos ⟨sh_i i, sh_i j⟩]
  simp [PyData.eqv]
@[simp] theorem is_no : isD d .none = .ok (.bool (isNo d)) := rfl
@[simp] theorem isn_no : isNotD d .none = .ok (.bool (!isNo d)) := rfl
@[simp] theorem isNo_none : isNo .none = true := rfl
@[simp] theorem isNo_int : isNo (.int i) = false := rfl
@[simp] theorem isNo_tup (ds : List D) : isNo (.tuple ds) = false := rfl
@[simp] theorem isNo_lst (ds : List D) : isNo (.list ds) = false := rfl
@[simp] theorem tob_b (b : Bool) : tob (.bool b) = .ok b := rfl
@[simp] theorem tr_b (b : Bool) : trD (.bool b) = .ok b := rfl
@[simp] theorem tr_l (ds : List D) : trD (.list ds) = .ok (!ds.isEmpty) := rfl
@[simp] theorem one_ {A : Type} (g : D → R A) : one g [d] = g d := rfl
@[simp] theorem two_ {A : Type} (g : D → D → R A) : two g [d, e] = g d e := rfl
@[simp] theorem int_i : intD (.int i) = .ok (.int i) := rfl
@[simp] theorem int_b (b : Bool) : intD (.bool b) = .ok (.int (if b then 1 else 0)) := rfl
@[simp] theorem abs_i : absD (.int i) = .ok (.int (i.natAbs : Int)) := by
  have e : (if i < 0 then -i else i) = (i.natAbs : Int) := by omega
  show R.ok (PyData.int (if i < 0 then -i else i)) = _
  rw [e]
@[simp] theorem len_l (ds : List D) : lenD (.list ds) = .ok (.int ds.length) := rfl
@[simp] theorem len_t (ds : List D) : lenD (.tuple ds) = .ok (.int ds.length) := rfl
@[simp] theorem gcd_i : gcdD (.int i) (.int j) = .ok (.int ((Nat.gcd i.natAbs j.natAbs : Nat) : Int)) := rfl
@[simp] theorem seq_l (ds : List D) : seqD (.list ds) = .ok ds := rfl
@[simp] theorem seq_t (ds : List D) : seqD (.tuple ds) = .ok ds := rfl
@[simp] theorem opI_i : opI (.int i) = .ok (some i) := rfl
@[simp] theorem list_l (ds : List D) : listD (.list ds) = .ok (.ow (ds.map .fr)) := rfl
@[simp] theorem slc_l (ds : List D) (lo hi : Option Int) : slcD (.list ds) lo hi = .ok (.ow ((cutD ds lo hi).map .fr)) := rfl
@[simp] theorem add_l (xs ys : List D) : addD (.list xs) (.list ys) = if xs.length + ys.length ≤ sizeLine then .ok (.list (xs ++ ys)) else .no := rfl
theorem ix_l (ds : List D) : ixD (.list ds) (.int i) = match atI ds i with | some d => .ok d | none => .no := rfl
theorem ix_t (ds : List D) : ixD (.tuple ds) (.int i) = match atI ds i with | some d => .ok d | none => .no := rfl
theorem atI_nat {A : Type} {xs : List A} {n : Nat} {a : A} (h : xs[n]? = some a) : atI xs (n : Int) = some a := by
  unfold atI ixN
  obtain ⟨hl, _⟩ := List.getElem?_eq_some_iff.mp h
  rw [if_pos (by omega), if_pos (by omega)]
  simpa using h
theorem atI_of {A : Type} {xs : List A} {i : Int} {a : A} (h0 : 0 ≤ i) (h : xs[i.toNat]? = some a) : atI xs i = some a := by
  have := atI_nat h
  rwa [Int.toNat_of_nonneg h0] at this
@[simp] theorem ix_l0 (ds : List D) : ixD (.list (d :: ds)) (.int 0) = .ok d := by rw [ix_l, atI_of (Int.le_refl 0) rfl]
@[simp] theorem ix_t0 (ds : List D) : ixD (.tuple (d :: ds)) (.int 0) = .ok d := by rw [ix_t, atI_of (Int.le_refl 0) rfl]
@[simp] theorem ix_t1 (ds : List D) : ixD (.tuple (d :: e :: ds)) (.int 1) = .ok e := by rw [ix_t, atI_of (by decide) rfl]
@[simp] theorem ix_l1 (ds : List D) : ixD (.list (d :: e :: ds)) (.int 1) = .ok e := by rw [ix_l, atI_of (by decide) rfl]
end
@[simp] theorem apS_z {f : En → R S} {ss : List S} {env : En} : apS 0 f (some (.v (.ow ss)) :: env) = (f (some (.v (.ow ss)) :: env)).st (some (.v (.ow ss)) :: env) fun s => if ss.length < 1000000 then .nx (some (.v (.ow (ss ++ [s]))) :: env) else .no := rfl
theorem apS_at {f : En → R S} {ss : List S} {env : En} {i : Nat} (h : env[i]? = some (some (.v (.ow ss)))) : apS i f env = (f env).st env fun s => if ss.length < 1000000 then .nx (env.set i (some (.v (.ow (ss ++ [s]))))) else .no := by
  unfold apS
  rw [h]
/-! ### loops -/
/-- a loop's turns over the state s: on with a state, or out -/
def foldX {A B : Type} (step : A → B → Sum A SR) : List B → A → Sum A SR
  | [], a => .inl a
  | d :: ds, a => match step a d with
    | .inl a' => foldX step ds a'
    | .inr r => .inr r
/-- the outcome of a turn -/
def turnO {A : Type} (enc : A → En) : Sum A SR → SR → Prop
  | .inl a, r => r = .nx (enc a) ∨ r = .ct (enc a)
  | .inr r', r => r = r' ∧ (∀ e, r ≠ .nx e) ∧ (∀ e, r ≠ .ct e) ∧ (∀ e, r ≠ .bk e)
def outO {A : Type} (enc : A → En) : Sum A SR → SR
  | .inl a => .nx (enc a)
  | .inr r => r
theorem forF_fold {A B : Type} {b : D → En → Option En} {T : En → SR} (enc : A → En) (cd : B → D) (step : A → B → Sum A SR) : ∀ (ds : List B) (a : A) (P : A → Prop), P a →
    (∀ a d, P a → d ∈ ds → ∃ e1, b (cd d) (enc a) = some e1 ∧ turnO enc (step a d) (T e1) ∧ ∀ a', step a d = .inl a' → P a') → forF b T (ds.map cd) (enc a) = outO enc (foldX step ds a)
  | [], a, P, _, _ => rfl
  | d :: ds, a, P, pa, h => by
    obtain ⟨e1, h1, h2, h3⟩ := h a d pa List.mem_cons_self
    rw [List.map_cons, forF, h1]
    dsimp only
    rw [foldX]
    cases hs : step a d with
    | inl a' =>
      rw [hs] at h2
      have ih := forF_fold enc cd step ds a' P (h3 a' hs) fun a d p m => h a d p (List.mem_cons_of_mem _ m)
      rcases h2 with z | z
      · rw [z]; exact ih
      · rw [z]; exact ih
    | inr r =>
      rw [hs] at h2
      obtain ⟨z, n1, n2, n3⟩ := h2
      show _ = r
      rw [z] at n1 n2 n3 ⊢
      cases r with
      | nx e => exact absurd rfl (n1 e)
      | ct e => exact absurd rfl (n2 e)
      | bk e => exact absurd rfl (n3 e)
      | _ => rfl
/-- a loop that never leaves: a fold -/
theorem forF_go {A B : Type} {b : D → En → Option En} {T : En → SR} (enc : A → En) (cd : B → D) (step : A → B → A) : ∀ (ds : List B) (a : A) (P : A → Prop), P a →
    (∀ a d, P a → d ∈ ds → ∃ e1, b (cd d) (enc a) = some e1 ∧ T e1 = .nx (enc (step a d)) ∧ P (step a d)) → forF b T (ds.map cd) (enc a) = .nx (enc (ds.foldl step a))
  | [], a, P, _, _ => rfl
  | d :: ds, a, P, pa, h => by
    obtain ⟨e1, h1, h2, h3⟩ := h a d pa List.mem_cons_self
    rw [List.map_cons, forF, h1]
    dsimp only
    rw [h2]
    exact forF_go enc cd step ds (step a d) P h3 fun a d p m => h a d p (List.mem_cons_of_mem _ m)
/-- a comprehension without a test -/
theorem compF_map {B : Type} {b : D → En → Option En} {f : En → R S} {env : En} (cd : B → D) (g : B → S) : ∀ ds : List B, (∀ d ∈ ds, ∃ e1, b (cd d) env = some e1 ∧ f e1 = .ok (g d)) → compF b yesT f env (ds.map cd) = .ok (ds.map g)
  | [], _ => rfl
  | d :: ds, h => by
    obtain ⟨e1, h1, h2⟩ := h d List.mem_cons_self
    have ih := compF_map (b := b) (f := f) (env := env) cd g ds fun d m => h d (List.mem_cons_of_mem _ m)
    rw [List.map_cons, compF, h1]
    dsimp only [yesT]
    rw [h2, ih]
    rfl
/-- a comprehension with a test -/
theorem compF_filter {B : Type} {b : D → En → Option En} {t : En → R Bool} {f : En → R S} {env : En} (cd : B → D) (p : B → Bool) (g : B → S) : ∀ ds : List B, (∀ d ∈ ds, ∃ e1, b (cd d) env = some e1 ∧ t e1 = .ok (p d) ∧ (p d = true → f e1 = .ok (g d))) →
    compF b t f env (ds.map cd) = .ok ((ds.filter p).map g)
  | [], _ => rfl
  | d :: ds, h => by
    obtain ⟨e1, h1, h2, h3⟩ := h d List.mem_cons_self
    have ih := compF_filter (b := b) (t := t) (f := f) (env := env) cd p g ds fun d m => h d (List.mem_cons_of_mem _ m)
    rw [List.map_cons, compF, h1]
    dsimp only
    rw [h2]
    cases e : p d with
    | false =>
      dsimp only
      rw [ih, List.filter_cons_of_neg (by simp [e])]
    | true =>
      dsimp only
      rw [h3 e, ih, List.filter_cons_of_pos e]
      rfl
/-- a loop that never leaves, with what is left of it in sight -/
theorem forF_goI {A B : Type} {b : D → En → Option En} {T : En → SR} (enc : A → En) (cd : B → D) (step : A → B → A) : ∀ (ds : List B) (a : A) (P : A → List B → Prop), P a ds →
    (∀ a d ds, P a (d :: ds) → ∃ e1, b (cd d) (enc a) = some e1 ∧ T e1 = .nx (enc (step a d)) ∧ P (step a d) ds) → forF b T (ds.map cd) (enc a) = .nx (enc (ds.foldl step a))
  | [], a, P, _, _ => rfl
  | d :: ds, a, P, pa, h => by
    obtain ⟨e1, h1, h2, h3⟩ := h a d ds pa
    rw [List.map_cons, forF, h1]
    dsimp only
    rw [h2]
    exact forF_goI enc cd step ds (step a d) P h3 h
/-- a loop that may leave, with what is left of it in sight -/
theorem forF_foldI {A B : Type} {b : D → En → Option En} {T : En → SR} (enc : A → En) (cd : B → D) (step : A → B → Sum A SR) : ∀ (ds : List B) (a : A) (P : A → List B → Prop), P a ds →
    (∀ a d ds, P a (d :: ds) → ∃ e1, b (cd d) (enc a) = some e1 ∧ turnO enc (step a d) (T e1) ∧ ∀ a', step a d = .inl a' → P a' ds) → forF b T (ds.map cd) (enc a) = outO enc (foldX step ds a)
  | [], a, P, _, _ => rfl
  | d :: ds, a, P, pa, h => by
    obtain ⟨e1, h1, h2, h3⟩ := h a d ds pa
    rw [List.map_cons, forF, h1]
    dsimp only
    rw [foldX]
    cases hs : step a d with
    | inl a' =>
      rw [hs] at h2
      have ih := forF_foldI enc cd step ds a' P (h3 a' hs) h
      rcases h2 with z | z
      · rw [z]; exact ih
      · rw [z]; exact ih
    | inr r =>
      rw [hs] at h2
      obtain ⟨z, n1, n2, n3⟩ := h2
      show _ = r
      rw [z] at n1 n2 n3 ⊢
      cases r with
      | nx e => exact absurd rfl (n1 e)
      | ct e => exact absurd rfl (n2 e)
      | bk e => exact absurd rfl (n3 e)
      | _ => rfl
end DL
namespace DL
open PySem PySem.Spec PyProof.Rows L2
/-! ### a list deep within a slot's own value -/
/-- the list at a place within -/
def getP : S → List Nat → Option (List S)
  | .ow ss, [] => some ss
  | .ow ss, n :: p => match ss[n]? with
    | some s => getP s p
    | none => none
  | .tu ss, n :: p => match ss[n]? with
    | some s => getP s p
    | none => none
  | _, _ => none
def setP : S → List Nat → List S → S
  | .ow _, [], ts => .ow ts
  | .ow ss, n :: p, ts => .ow (ss.modify n fun s => setP s p ts)
  | .tu ss, n :: p, ts => .tu (ss.modify n fun s => setP s p ts)
  | s, _, _ => s
/-- from the value v along the places p to the list at b -/
def Along (H : Hp) : V → List Nat → Addr → Prop
  | v, [], b => v = .ref b
  | v, n :: p, b => ∃ a vs w, v = .ref a ∧ (H a = some (.lst vs) ∨ H a = some (.tup vs)) ∧ vs[n]? = some w ∧ Along H w p b
/-- what is known of the list at b within a value -/
def Deep (K : PySem.W.Frag) (F H : Hp) (v : V) (p : List Nat) (ts : List S) (as : List Addr) (G : Hp → List S → List Addr → Prop) : Prop :=
  ∃ b us cs, Along H v p b ∧ F b = none ∧ H b = some (.lst us) ∧ OwAll K F H us ts cs ∧ b ∈ as ∧ b ∉ cs ∧ cs.Nodup ∧ (∀ x ∈ cs, x ∈ as) ∧
    ∀ us' ts' ds, OwAll K F H us' ts' ds → b ∉ ds → ds.Nodup → (∀ x ∈ ds, x ∈ cs ∨ x ∉ as) → ∃ es, G (upd H b (.lst us')) ts' es ∧ es.Nodup ∧ ∀ x ∈ es, x ∈ as ∨ x ∈ ds
theorem getP_ow {ss : List S} {n : Nat} {p : List Nat} {ts : List S} (h : getP (.ow ss) (n :: p) = some ts) : ∃ s, ss[n]? = some s ∧ getP s p = some ts := by
  unfold getP at h
  cases e : ss[n]? with
  | none => rw [e] at h; cases h
  | some s => rw [e] at h; exact ⟨s, rfl, h⟩
theorem getP_tu {ss : List S} {n : Nat} {p : List Nat} {ts : List S} (h : getP (.tu ss) (n :: p) = some ts) : ∃ s, ss[n]? = some s ∧ getP s p = some ts := by
  unfold getP at h
  cases e : ss[n]? with
  | none => rw [e] at h; cases h
  | some s => rw [e] at h; exact ⟨s, rfl, h⟩
/-- one item of many -/
theorem OwAll.deepAt {K : PySem.W.Frag} {F H : Hp} {p : List Nat} {ts : List S}
    (ih : ∀ (s : S) (v : V) (as : List Addr), Ow K F H v s as → as.Nodup → getP s p = some ts → Deep K F H v p ts as fun H' ts' es => Ow K F H' v (setP s p ts') es) :
    ∀ {vs : List V} {ss : List S} {as : List Addr} {n : Nat} {s : S}, OwAll K F H vs ss as → as.Nodup → ss[n]? = some s → getP s p = some ts →
      ∃ w, vs[n]? = some w ∧ Deep K F H w p ts as fun H' ts' es => OwAll K F H' vs (ss.modify n fun s => setP s p ts') es
  | _, _, _, _, _, .nil, _, e, _ => by simp at e
  | _, _, _, 0, _, .cons (v := v) (s := s0) (as := as) (bs := bs) a t, nd, e, g => by
    simp at e; subst e
    have n' := List.nodup_append.mp nd
    obtain ⟨b, us, cs, q1, q2, q3, q4, q5, q6, q7, q8, q9⟩ := ih _ _ _ a n'.1 g
    refine ⟨_, rfl, b, us, cs, q1, q2, q3, q4, List.mem_append_left _ q5, q6, q7, fun x hx => List.mem_append_left _ (q8 x hx), fun us' ts' ds w1 w2 w3 w4 => ?_⟩
    obtain ⟨es, r1, r2, r3⟩ := q9 us' ts' ds w1 w2 w3 fun x hx => (w4 x hx).imp id fun z h => z (List.mem_append_left _ h)
    have nb : ∀ x ∈ bs, x ≠ b := fun x hx z => n'.2.2 b q5 x hx z.symm
    refine ⟨es ++ bs, by
      show OwAll K F _ _ (List.modify _ _ _) _
      rw [List.modify_zero_cons]
      exact .cons r1 (OwAll.mono (Same.refl _) _ _ _ t fun x hx => ⟨(t.at _ _ _ x hx).1, upd_ne (nb x hx)⟩), List.nodup_append.mpr ⟨r2, n'.2.1, fun x hx y hy z => ?_⟩, fun x hx => ?_⟩
    · subst z
      rcases r3 x hx with z | z
      · exact n'.2.2 x z x hy rfl
      · rcases w4 x z with u | u
        · exact n'.2.2 x (q8 x u) x hy rfl
        · exact u (List.mem_append_right _ hy)
    · rcases List.mem_append.mp hx with z | z
      · exact (r3 x z).imp (List.mem_append_left _) id
      · exact .inl (List.mem_append_right _ z)
  | _, _, _, n + 1, _, .cons (v := v) (s := s0) (as := as) (bs := bs) a t, nd, e, g => by
    have n' := List.nodup_append.mp nd
    obtain ⟨w, h0, b, us, cs, q1, q2, q3, q4, q5, q6, q7, q8, q9⟩ := OwAll.deepAt ih (n := n) t n'.2.1 (by simpa using e) g
    refine ⟨w, by simpa using h0, b, us, cs, q1, q2, q3, q4, List.mem_append_right _ q5, q6, q7, fun x hx => List.mem_append_right _ (q8 x hx), fun us' ts' ds w1 w2 w3 w4 => ?_⟩
    obtain ⟨es, r1, r2, r3⟩ := q9 us' ts' ds w1 w2 w3 fun x hx => (w4 x hx).imp id fun z h => z (List.mem_append_right _ h)
    have nb : ∀ x ∈ as, x ≠ b := fun x hx z => n'.2.2 x hx b q5 z
    refine ⟨as ++ es, by
      show OwAll K F _ _ (List.modify _ _ _) _
      rw [List.modify_succ_cons]
      exact .cons (Ow.mono (Same.refl _) _ _ _ a fun x hx => ⟨(a.at _ _ _ x hx).1, upd_ne (nb x hx)⟩) r1, List.nodup_append.mpr ⟨n'.1, r2, fun x hx y hy z => ?_⟩, fun x hx => ?_⟩
    · subst z
      rcases r3 x hy with z | z
      · exact n'.2.2 x hx x z rfl
      · rcases w4 x z with u | u
        · exact n'.2.2 x hx x (q8 x u) rfl
        · exact u (List.mem_append_left _ hx)
    · rcases List.mem_append.mp hx with z | z
      · exact .inl (List.mem_append_left _ z)
      · exact (r3 x z).imp (List.mem_append_right _) id
theorem Ow.deep {K : PySem.W.Frag} {F H : Hp} {ts : List S} : ∀ (p : List Nat) (s : S) (v : V) (as : List Addr), Ow K F H v s as → as.Nodup → getP s p = some ts → Deep K F H v p ts as fun H' ts' es => Ow K F H' v (setP s p ts') es
  | [], s, v, as, h, nd, g => by
    cases h with
    | fr _ => simp [getP] at g
    | tu _ _ _ => simp [getP] at g
    | @ow a vs ss cs x y z =>
      simp [getP] at g; subst g
      have n' := List.nodup_cons.mp nd
      refine ⟨a, vs, cs, rfl, x, y, z, List.mem_cons_self, n'.1, n'.2, fun x hx => List.mem_cons_of_mem _ hx, fun us' ts' ds w1 w2 w3 w4 => ⟨a :: ds, ?_, List.nodup_cons.mpr ⟨w2, w3⟩, fun x hx => ?_⟩⟩
      · exact .ow x upd_same (OwAll.mono (Same.refl _) _ _ _ w1 fun b hb => ⟨(w1.at _ _ _ b hb).1, upd_ne fun z => w2 (z ▸ hb)⟩)
      · rcases List.mem_cons.mp hx with z | z
        · exact .inl (z ▸ List.mem_cons_self)
        · exact .inr z
  | n :: p, s, v, as, h, nd, g => by
    cases h with
    | fr _ => simp [getP] at g
    | @ow a vs ss cs x y z =>
      obtain ⟨s, e, g⟩ := getP_ow g
      have n' := List.nodup_cons.mp nd
      obtain ⟨w, h0, b, us, cs2, q1, q2, q3, q4, q5, q6, q7, q8, q9⟩ := OwAll.deepAt (Ow.deep p) z n'.2 e g
      refine ⟨b, us, cs2, ⟨a, vs, w, rfl, .inl y, h0, q1⟩, q2, q3, q4, List.mem_cons_of_mem _ q5, q6, q7, fun x hx => List.mem_cons_of_mem _ (q8 x hx), fun us' ts' ds w1 w2 w3 w4 => ?_⟩
      obtain ⟨es, r1, r2, r3⟩ := q9 us' ts' ds w1 w2 w3 fun x hx => (w4 x hx).imp id fun z h => z (List.mem_cons_of_mem _ h)
      have ab : a ≠ b := fun z => n'.1 (z ▸ q5)
      refine ⟨a :: es, .ow x (by rw [upd_ne ab]; exact y) r1, List.nodup_cons.mpr ⟨fun hm => ?_, r2⟩, fun x hx => ?_⟩
      · rcases r3 a hm with z | z
        · exact n'.1 z
        · rcases w4 a z with u | u
          · exact n'.1 (q8 a u)
          · exact u List.mem_cons_self
      · rcases List.mem_cons.mp hx with z | z
        · exact .inl (z ▸ List.mem_cons_self)
        · exact (r3 x z).imp (List.mem_cons_of_mem _) id
    | @tu a vs ss cs x y z =>
      obtain ⟨s, e, g⟩ := getP_tu g
      have n' := List.nodup_cons.mp nd
      obtain ⟨w, h0, b, us, cs2, q1, q2, q3, q4, q5, q6, q7, q8, q9⟩ := OwAll.deepAt (Ow.deep p) z n'.2 e g
      refine ⟨b, us, cs2, ⟨a, vs, w, rfl, .inr y, h0, q1⟩, q2, q3, q4, List.mem_cons_of_mem _ q5, q6, q7, fun x hx => List.mem_cons_of_mem _ (q8 x hx), fun us' ts' ds w1 w2 w3 w4 => ?_⟩
      obtain ⟨es, r1, r2, r3⟩ := q9 us' ts' ds w1 w2 w3 fun x hx => (w4 x hx).imp id fun z h => z (List.mem_cons_of_mem _ h)
      have ab : a ≠ b := fun z => n'.1 (z ▸ q5)
      refine ⟨a :: es, .tu x (by rw [upd_ne ab]; exact y) r1, List.nodup_cons.mpr ⟨fun hm => ?_, r2⟩, fun x hx => ?_⟩
      · rcases r3 a hm with z | z
        · exact n'.1 z
        · rcases w4 a z with u | u
          · exact n'.1 (q8 a u)
          · exact u List.mem_cons_self
      · rcases List.mem_cons.mp hx with z | z
        · exact .inl (z ▸ List.mem_cons_self)
        · exact (r3 x z).imp (List.mem_cons_of_mem _) id
end DL
namespace DL
open PySem PySem.Spec PyProof.Rows L2
variable [Tabs]
/-- one slot alone -/
theorem OwEn.focus {K : PySem.W.Frag} {F H : Hp} : ∀ {σ : L2.St} {env : En} {as : List Addr} {i : Nat} {s : Sl}, OwEn K F H σ env as → as.Nodup → env[i]? = some (some s) →
    ∃ v bs, σ[i]? = some (some v) ∧ OwS K F H v s bs ∧ bs.Nodup ∧ (∀ x ∈ bs, x ∈ as) ∧
      ∀ H' s' cs, OwS K F H' v s' cs → cs.Nodup → (∀ x ∈ as, x ∉ bs → H' x = H x) → (∀ x ∈ cs, x ∈ bs ∨ x ∉ as) → ∃ ds, OwEn K F H' σ (env.set i (some s')) ds ∧ ds.Nodup ∧ ∀ x ∈ ds, x ∈ as ∨ x ∈ cs
  | _, _, _, _, _, .nil, _, e => by simp at e
  | _, _, _, 0, _, .un t, _, e => by simp at e
  | _, _, _, i + 1, _, .un t, n, e => by
    obtain ⟨v, bs, q1, q2, q3, q4, q5⟩ := OwEn.focus (i := i) t n (by simpa using e)
    refine ⟨v, bs, by simpa using q1, q2, q3, q4, fun H' s' cs w1 w2 w3 w4 => ?_⟩
    obtain ⟨ds, r1, r2, r3⟩ := q5 H' s' cs w1 w2 w3 w4
    exact ⟨ds, .un r1, r2, r3⟩
  | _, _, _, 0, _, .so (v := v) (bs := bs) (as := as) h t, n, e => by
    simp at e; subst e
    have n' := List.nodup_append.mp n
    refine ⟨v, bs, rfl, h, n'.1, fun x hx => List.mem_append_left _ hx, fun H' s' cs w1 w2 w3 w4 => ⟨cs ++ as, .so w1 (t.mono (Same.refl _) fun x hx => ⟨(t.at x hx).1, w3 x (List.mem_append_right _ hx) fun z => n'.2.2 x z x hx rfl⟩), List.nodup_append.mpr ⟨w2, n'.2.1, fun x hx y hy z => ?_⟩, fun x hx => ?_⟩⟩
    · subst z
      rcases w4 x hx with z | z
      · exact n'.2.2 x z x hy rfl
      · exact z (List.mem_append_right _ hy)
    · exact (List.mem_append.mp hx).elim .inr fun z => .inl (List.mem_append_right _ z)
  | _, _, _, i + 1, _, .so (bs := hs) (as := as) h t, n, e => by
    have n' := List.nodup_append.mp n
    obtain ⟨v, bs, q1, q2, q3, q4, q5⟩ := OwEn.focus (i := i) t n'.2.1 (by simpa using e)
    refine ⟨v, bs, by simpa using q1, q2, q3, fun x hx => List.mem_append_right _ (q4 x hx), fun H' s' cs w1 w2 w3 w4 => ?_⟩
    obtain ⟨ds, r1, r2, r3⟩ := q5 H' s' cs w1 w2 (fun x hx nx => w3 x (List.mem_append_right _ hx) nx) fun x hx => (w4 x hx).imp id fun z u => z (List.mem_append_right _ u)
    refine ⟨hs ++ ds, .so (h.mono (Same.refl _) fun x hx => ⟨(h.at x hx).1, w3 x (List.mem_append_left _ hx) fun z => n'.2.2 x hx x (q4 x z) rfl⟩) r1, List.nodup_append.mpr ⟨n'.1, r2, fun x hx y hy z => ?_⟩, fun x hx => ?_⟩
    · subst z
      rcases r3 x hy with z | z
      · exact n'.2.2 x hx x z rfl
      · rcases w4 x z with u | u
        · exact n'.2.2 x hx x (q4 x u) rfl
        · exact u (List.mem_append_left _ hx)
    · rcases List.mem_append.mp hx with z | z
      · exact .inl (List.mem_append_left _ z)
      · exact (r3 x z).imp (List.mem_append_right _) id
/-- from the value v along the places p to the value w -/
def To (H : Hp) : V → List Nat → V → Prop
  | v, [], w => v = w
  | v, n :: p, w => ∃ a vs u, v = .ref a ∧ (H a = some (.lst vs) ∨ H a = some (.tup vs)) ∧ vs[n]? = some u ∧ To H u p w
theorem along_to {H : Hp} : ∀ {p : List Nat} {v : V} {b : Addr}, Along H v p b → To H v p (.ref b)
  | [], _, _, h => h
  | _ :: _, _, _, ⟨a, vs, w, h1, h2, h3, h4⟩ => ⟨a, vs, w, h1, h2, h3, along_to h4⟩
theorem To.fn {H : Hp} : ∀ {p : List Nat} {v u w : V}, To H v p u → To H v p w → u = w
  | [], _, _, _, h, h' => h.symm.trans h'
  | n :: p, v, u, w, ⟨a, vs, x, h1, h2, h3, h4⟩, ⟨a', vs', x', h1', h2', h3', h4'⟩ => by
    subst h1
    cases h1'
    have e : vs = vs' := by
      rcases h2 with z | z <;> rcases h2' with z' | z' <;> rw [z] at z' <;> cases z' <;> rfl
    subst e
    rw [h3] at h3'
    cases h3'
    exact To.fn h4 h4'
theorem To.same {H H' : Hp} (e : Same H H') : ∀ {p : List Nat} {v w : V}, To H v p w → To H' v p w
  | [], _, _, h => h
  | _ :: _, _, _, ⟨a, vs, w, h1, h2, h3, h4⟩ => ⟨a, vs, w, h1, h2.imp (e _ _) (e _ _), h3, To.same e h4⟩
theorem To.snoc {H : Hp} {a : Addr} {vs : List V} {n : Nat} {w : V} (h2 : H a = some (.lst vs) ∨ H a = some (.tup vs)) (h3 : vs[n]? = some w) : ∀ {p : List Nat} {v : V}, To H v p (.ref a) → To H v (p ++ [n]) w
  | [], v, h => ⟨a, vs, w, h, h2, h3, rfl⟩
  | _ :: _, _, ⟨a', vs', w', k1, k2, k3, k4⟩ => ⟨a', vs', w', k1, k2, k3, To.snoc h2 h3 k4⟩
/-- what stands at a place within -/
def getS : S → List Nat → Option S
  | s, [] => some s
  | .ow ss, n :: p => match ss[n]? with
    | some s => getS s p
    | none => none
  | .tu ss, n :: p => match ss[n]? with
    | some s => getS s p
    | none => none
  | .fr _, _ :: _ => none
theorem getS_getP : ∀ {p : List Nat} {s : S} {ts : List S}, getS s p = some (.ow ts) → getP s p = some ts
  | [], s, ts, h => by
    simp [getS] at h
    subst h
    rfl
  | n :: p, .fr d, ts, h => by simp [getS] at h
  | n :: p, .ow ss, ts, h => by
    unfold getS at h
    unfold getP
    cases e : ss[n]? with
    | none => rw [e] at h; cases h
    | some s => rw [e] at h; exact getS_getP h
  | n :: p, .tu ss, ts, h => by
    unfold getS at h
    unfold getP
    cases e : ss[n]? with
    | none => rw [e] at h; cases h
    | some s => rw [e] at h; exact getS_getP h
theorem OwAll.nth {K : PySem.W.Frag} {F H : Hp} : ∀ {vs : List V} {ss : List S} {as : List Addr} {n : Nat} {s : S}, OwAll K F H vs ss as → ss[n]? = some s → ∃ v bs, vs[n]? = some v ∧ Ow K F H v s bs
  | _, _, _, _, _, .nil, e => by simp at e
  | _, _, _, 0, _, .cons a t, e => by
    simp at e; subst e
    exact ⟨_, _, rfl, a⟩
  | _, _, _, n + 1, _, .cons a t, e => by
    obtain ⟨v, bs, h1, h2⟩ := OwAll.nth (n := n) t (by simpa using e)
    exact ⟨v, bs, by simpa using h1, h2⟩
theorem Ow.to {K : PySem.W.Frag} {F H : Hp} : ∀ {p : List Nat} {s t : S} {v : V} {as : List Addr}, Ow K F H v s as → getS s p = some t → ∃ w bs, To H v p w ∧ Ow K F H w t bs
  | [], s, t, v, as, h, g => by
    simp [getS] at g
    subst g
    exact ⟨v, as, rfl, h⟩
  | n :: p, s, t, v, as, h, g => by
    cases h with
    | fr _ => simp [getS] at g
    | @ow a vs ss cs x y z =>
      unfold getS at g
      cases e : ss[n]? with
      | none => rw [e] at g; cases g
      | some s =>
        rw [e] at g
        obtain ⟨v1, bs1, k1, k2⟩ := z.nth e
        obtain ⟨w, bs, q1, q2⟩ := Ow.to k2 g
        exact ⟨w, bs, ⟨a, vs, v1, rfl, .inl y, k1, q1⟩, q2⟩
    | @tu a vs ss cs x y z =>
      unfold getS at g
      cases e : ss[n]? with
      | none => rw [e] at g; cases g
      | some s =>
        rw [e] at g
        obtain ⟨v1, bs1, k1, k2⟩ := z.nth e
        obtain ⟨w, bs, q1, q2⟩ := Ow.to k2 g
        exact ⟨w, bs, ⟨a, vs, v1, rfl, .inr y, k1, q1⟩, q2⟩
/-- a list within a slot's own value is changed -/
theorem Rel.deep {K : PySem.W.Frag} {B F H F' H' : Hp} {env : En} {σ : L2.St} {i : Nat} {s : S} {p : List Nat} {ts : List S} (r : Rel K B F H env σ) (x : After F H F' H') (e : env[i]? = some (some (.v s))) (g : getP s p = some ts) :
    ∃ v b us cs, σ[i]? = some (some v) ∧ To H' v p (.ref b) ∧ F' b = none ∧ H' b = some (.lst us) ∧ OwAll K F' H' us ts cs ∧ b ∉ cs ∧ cs.Nodup ∧ (∀ c ∈ cs, ∃ o, H c = some o) ∧ (∃ o, H b = some o) ∧
      ∀ us' ts' ds, OwAll K F' H' us' ts' ds → b ∉ ds → ds.Nodup → (∀ c ∈ ds, c ∈ cs ∨ H c = none) → Rel K B F' (upd H' b (.lst us')) (env.set i (some (.v (setP s p ts')))) σ := by
  obtain ⟨as, h1, h2, h3⟩ := r.sl
  have h4 : OwEn K F' H' σ env as := h1.mono x.ff fun a ha => x.keepO (h1.at a ha)
  obtain ⟨v, bs, q1, q2, q3, q4, q5⟩ := h4.focus h2 e
  cases q2 with
  | v q2 =>
    obtain ⟨b, us, cs, w1, w2, w3, w4, w5, w6, w7, w8, w9⟩ := Ow.deep p s v bs q2 q3 g
    refine ⟨v, b, us, cs, q1, along_to w1, w2, w3, w4, w6, w7, fun c hc => let ⟨_, o, e, _⟩ := h1.at c (q4 c (w8 c hc)); ⟨o, e⟩, (let ⟨_, o, e, _⟩ := h1.at b (q4 b w5); ⟨o, e⟩), fun us' ts' ds k1 k2 k3 k4 => ?_⟩
    have nh : ∀ c, H c = none → c ∉ as := fun c hc hm => by
      obtain ⟨_, o, e, _⟩ := h1.at c hm
      rw [hc] at e; cases e
    obtain ⟨es, u1, u2, u3⟩ := w9 us' ts' ds k1 k2 k3 fun c hc => (k4 c hc).imp id fun z hm => nh c z (q4 c hm)
    obtain ⟨fs, t1, t2, t3⟩ := q5 (upd H' b (.lst us')) _ es (.v u1) u2 (fun c hc hn => upd_ne fun z => hn (z ▸ w5)) fun c hc => by
      rcases u3 c hc with z | z
      · exact .inl z
      · rcases k4 c z with y | y
        · exact .inl (w8 c y)
        · exact .inr (nh c y)
    have rb := r.bh.trans x.hh
    have bb : B b = none := h3 b (q4 b w5)
    refine ⟨rb.updR _ _ bb, x.fh.updR _ _ w2, fs, t1, t2, fun c hc => ?_⟩
    rcases t3 c hc with z | z
    · exact h3 c z
    · rcases u3 c z with y | y
      · exact h3 c (q4 c y)
      · rcases k4 c y with k | k
        · exact h3 c (q4 c (w8 c k))
        · exact r.bh.free k
/-! ### references into a slot's own value -/
def PoP (ec : Str → Value) (W : WX) (F H : Hp) (σ : L2.St) (i : Nat) (Q : VK) : R (List Nat) → Prop
  | .ok p => ∀ v w H' F', After F H F' H' → σ[i]? = some (some v) → To H' v p w → Q w H'
  | .er c => ∀ H' F', After F H F' H' → W (ec c) none σ H'
  | .no => False
def tP (K : PySem.W.Frag) (ec : Str → Value) (W : WX) (i : Nat) (f : En → R (List Nat)) : TE := fun σ H Q => ∃ B F env, Rel K B F H env σ ∧ PoP ec W F H σ i Q (f env)
/-- the expression is what stands in slot i at the places that f tells -/
def DRef (X : Cx) (W : WX) (e : Expr) (i : Nat) (f : En → R (List Nat)) : Prop := PE X e (tP X.K (ecOf X.mg) W i f) ∧ ∀ env p, f env = .ok p → ∃ s t, env[i]? = some (some (.v s)) ∧ getS s p = some t
def rfV (i : Nat) : En → R (List Nat) := fun env => match env[i]? with
  | some (some (.v _)) => .ok []
  | _ => .no
def rfX (i : Nat) (fa : En → R (List Nat)) (g : En → R D) : En → R (List Nat) := fun env => (fa env).bind fun p => (g env).bind fun d => match d with
  | .int j => match env[i]? with
    | some (some (.v s)) => match getS s p with
      | some (.ow ss) => match ixN ss.length j with
        | some n => .ok (p ++ [n])
        | none => .no
      | some (.tu ss) => match ixN ss.length j with
        | some n => .ok (p ++ [n])
        | none => .no
      | _ => .no
    | _ => .no
  | _ => .no
end DL
namespace DL
open PySem PySem.Spec PyProof.Rows L2
variable [Tabs]
theorem R.bind_eq {A B : Type} {r : R A} {f : A → R B} {b : B} (h : r.bind f = .ok b) : ∃ a, r = .ok a ∧ f a = .ok b := by
  cases r with
  | ok a => exact ⟨a, rfl, h⟩
  | er c => cases h
  | no => cases h
theorem getS_snoc : ∀ {p : List Nat} {s t : S} {ss : List S} {n : Nat}, getS s p = some t → (t = .ow ss ∨ t = .tu ss) → getS s (p ++ [n]) = ss[n]?
  | [], s, t, ss, n, h, ht => by
    simp [getS] at h
    subst h
    have aux : ∀ o : Option S, (match o with | some s => getS s [] | none => none) = o := fun o => by cases o <;> simp [getS]
    rcases ht with rfl | rfl
    · exact aux _
    · exact aux _
  | m :: p, .fr d, t, ss, n, h, ht => by simp [getS] at h
  | m :: p, .ow us, t, ss, n, h, ht => by
    unfold getS at h
    show (match us[m]? with | some s => getS s (p ++ [n]) | none => none) = _
    cases e : us[m]? with
    | none => rw [e] at h; cases h
    | some s => rw [e] at h; exact getS_snoc h ht
  | m :: p, .tu us, t, ss, n, h, ht => by
    unfold getS at h
    show (match us[m]? with | some s => getS s (p ++ [n]) | none => none) = _
    cases e : us[m]? with
    | none => rw [e] at h; cases h
    | some s => rw [e] at h; exact getS_snoc h ht
section
variable {X : Cx} {W : WX} {k : Nat} {m : Md} {pos pos' : Pos} {e c tg iter ei a b : Expr} {f fi g : En → R D} {fo : En → R S} {fp : En → R (List Nat)} {t : En → R Bool} {st : Stmt} {sts body : List Stmt} {T U : En → SR}
theorem ixN_lt {n : Nat} {i : Int} {j : Nat} (h : ixN n i = some j) : j < n := (ixN_seq h).2.1
theorem dr_var {x : Str} (i : Nat) (hN : X.N[i]? = some x := by rfl) (hv : Vis X.env.scope x := by first | exact Or.inl rfl | exact Or.inr (Or.inl rfl) | exact Or.inr (Or.inr rfl)) (hd : (x == ("__debug__" : Str)) = false := by decide)
    (hcd : (x == ("__classdict__" : Str)) = false := by decide) : DRef X W (.Name x pos) i (rfV i) :=
  ⟨(pe_var hN hv hd hcd).wk fun σ H Q ⟨B, F, env, r, p⟩ => by
    unfold rfV at p
    split at p
    · rename_i s ee
      obtain ⟨as, h1, _, _⟩ := r.sl
      obtain ⟨v, bs, q1, q2, _⟩ := h1.get ee
      exact ⟨v, q1, p v v H F (After.refl r.fh) q1 rfl⟩
    · exact p.elim, fun env p h => by
    unfold rfV at h
    split at h
    · rename_i s ee
      cases h
      exact ⟨s, s, ee, by unfold getS; rfl⟩
    · cases h⟩
theorem rfX_ok {i : Nat} {env : En} {p : List Nat} (h : rfX i fp g env = .ok p) : ∃ q d n j ss s t, fp env = .ok q ∧ g env = .ok d ∧ d = .int j ∧ env[i]? = some (some (.v s)) ∧ getS s q = some t ∧ (t = .ow ss ∨ t = .tu ss) ∧ ixN ss.length j = some n ∧ p = q ++ [n] := by
  unfold rfX at h
  obtain ⟨q, e1, h⟩ := R.bind_eq h
  obtain ⟨d, e2, h⟩ := R.bind_eq h
  split at h
  · rename_i j
    split at h
    · rename_i s ee
      split at h
      · rename_i ss es
        split at h
        · rename_i n en
          cases h
          exact ⟨q, _, n, j, ss, s, _, e1, e2, rfl, ee, es, .inl rfl, en, rfl⟩
        · cases h
      · rename_i ss es
        split at h
        · rename_i n en
          cases h
          exact ⟨q, _, n, j, ss, s, _, e1, e2, rfl, ee, es, .inr rfl, en, rfl⟩
        · cases h
      · cases h
    · cases h
  · cases h
theorem dr_ix {i : Nat} (ha : DRef X W a i fp) (hb : DE X W .h b g) (hs : PlainIx b := by intro _ _; rfl) : DRef X W (.Subscript a b pos) i (rfX i fp g) :=
  ⟨(pe_ix ix_seq ha.1 hb hs).wk fun σ H Q ⟨B, F, env, r, p⟩ => by
    refine ⟨B, F, env, r, ?_⟩
    cases e1 : fp env with
    | no => unfold rfX at p; rw [e1] at p; exact p
    | er c => unfold rfX at p; rw [e1] at p; exact p
    | ok q =>
      intro v w H1 F1 a1 hv hto
      refine ⟨B, F1, env, r.after a1, ?_⟩
      cases e2 : g env with
      | no => unfold rfX at p; rw [e1] at p; simp only [R.bind_ok] at p; rw [e2] at p; exact p.elim
      | er c => unfold rfX at p; rw [e1] at p; simp only [R.bind_ok] at p; rw [e2] at p; exact fun H2 F2 a2 => p H2 F2 (a1.trans a2)
      | ok d =>
        intro u H2 F2 a2 qd
        cases e3 : rfX i fp g env with
        | no => rw [e3] at p; exact p.elim
        | er c =>
          exfalso
          unfold rfX at e3
          rw [e1] at e3; simp only [R.bind_ok] at e3; rw [e2] at e3; simp only [R.bind_ok] at e3
          repeat' split at e3
          all_goals cases e3
        | ok p2 =>
          rw [e3] at p
          obtain ⟨q', d', n, j, ss, s, t, k1, k2, k3, k4, k5, k6, k7, k8⟩ := rfX_ok e3
          rw [e1] at k1; cases k1
          rw [e2] at k2; cases k2
          subst k3
          subst k8
          have r2 := (r.after a1).after a2
          obtain ⟨as, h1, _, _⟩ := r2.sl
          obtain ⟨v', bs, q1, q2, _⟩ := h1.get k4
          rw [hv] at q1; cases q1
          cases q2 with
          | v q2 =>
            obtain ⟨w', bs', x1, x2⟩ := q2.to k5
            have ew := To.fn (To.same a2.hh hto) x1
            subst ew
            have hp := fun z H3 F3 a3 hz => p v z H3 F3 ((a1.trans a2).trans a3) hv hz
            have hu := qd.intI
            rcases k6 with rfl | rfl
            · cases x2 with
              | @ow a vs _ _ y1 y2 y3 =>
                have hl : n < vs.length := by rw [y3.len]; exact ixN_lt k7
                have hg : vs[n]? = some vs[n] := List.getElem?_eq_getElem hl
                refine .inl ⟨a, vs, j, vs[n], rfl, hu, SqL.of y2, ?_, p _ _ H2 F2 (a1.trans a2) hv (To.snoc (.inl y2) hg x1)⟩
                unfold atI
                rw [y3.len, k7]
                exact hg
            · cases x2 with
              | @tu a vs _ _ y1 y2 y3 =>
                have hl : n < vs.length := by rw [y3.len]; exact ixN_lt k7
                have hg : vs[n]? = some vs[n] := List.getElem?_eq_getElem hl
                refine .inr (.inl ⟨a, vs, j, vs[n], rfl, hu, .inl (.inl y2), ?_, p _ _ H2 F2 (a1.trans a2) hv (To.snoc (.inr y2) hg x1)⟩)
                unfold atI
                rw [y3.len, k7]
                exact hg, fun env p h => by
    obtain ⟨q', d', n, j, ss, s, t, k1, k2, k3, k4, k5, k6, k7, k8⟩ := rfX_ok h
    subst k8
    have hl : n < ss.length := ixN_lt k7
    exact ⟨s, ss[n], k4, by rw [getS_snoc k5 k6]; exact List.getElem?_eq_getElem hl⟩⟩
/-- R.append(e), R within a slot's own value -/
def apP (i : Nat) (fp : En → R (List Nat)) (fo : En → R S) : En → SR := fun env => (fp env).st env fun p => match env[i]? with
  | some (some (.v s)) => match getP s p with
    | some ts => (fo env).st env fun t => if ts.length < 1000000 then .nx (env.set i (some (.v (setP s p (ts ++ [t]))))) else .no
    | none => .no
  | _ => .no
theorem ds_appendP {x : Expr} {ap cp : Pos} {i : Nat} (hx : DRef X W x i fp) (he : DO X W e fo) (hss : starEach [e] X.env = (false, eval e X.env) :: starEach [] X.env := by rfl)
    (hbase : attributeBase x "append" X.env (eval x X.env) = eval x X.env := by rfl)
    (hfew : ((backTo cp (starEach [e] X.env)).all (fun x => !x.1) && (backToKw cp (keywordEach [] X.env)).all (fun x => x.1.isSome)
      && decide ([e].length + ([] : List Keyword).length + (if ([] : List Keyword).isEmpty then 0 else 1) < 30)) = true := by rfl)
    (hline : (ap.endLine == cp.line) = true := by rfl) (hplain : (backTo cp (starEach [] X.env)).any (·.1) = false := by rfl)
    (hs : swapsWith (.Call (.Attribute x "append" ap) [e] [] cp) none pos.line X.env = pure false := by rfl) :
    DS X W (.Expr (.Call (.Attribute x "append" ap) [e] [] cp) pos) (apP i fp fo) :=
  (ps_expr (pe_bm F.plainAttrs_list F.slot_list_append F.type_list_append mt_append hx.1 (pa_cons he pa_nil hss) hbase hfew hline hss hplain) hs).wk fun D σ H ⟨B, F, env, r, p⟩ => by
    unfold apP at p
    refine ⟨B, F, env, r, ?_⟩
    cases e1 : fp env with
    | no => rw [e1] at p; exact p.elim
    | er c => rw [e1] at p; exact fun H1 F1 a1 => p σ H1 F1 (a1.toS r.bh) (r.after a1)
    | ok q =>
      rw [e1] at p
      obtain ⟨s, t0, ee, eg⟩ := hx.2 env q e1
      replace p : PoS X.K (ecOf X.mg) W B F D (match env[i]? with
        | some (some (.v s)) => match getP s q with
          | some ts => (fo env).st env fun t => if ts.length < 1000000 then .nx (env.set i (some (.v (setP s q (ts ++ [t]))))) else .no
          | none => .no
        | _ => .no) := p
      rw [ee] at p
      dsimp only at p
      intro v w H1 F1 a1 hv hto
      cases ep : getP s q with
      | none => rw [ep] at p; exact p.elim
      | some ts =>
        rw [ep] at p
        dsimp only at p
        have r1 := r.after a1
        obtain ⟨v0, b0, us0, cs0, z1, z2, z3, z4, _⟩ := r.deep a1 ee ep
        rw [hv] at z1; cases z1
        have ew := To.fn hto z2
        subst ew
        refine ⟨tyV_lst z4, ?_⟩
        refine tO.st r1 (p.after (a1.toS r.bh)) fun v1 H2 F2 t as a2 r2 o n fr p1 => ?_
        obtain ⟨v0', b1, us, cs, y1, y2, y3, y4, y5, y6, y7, y8, y9, y10⟩ := r1.deep a2 ee ep
        rw [hv] at y1; cases y1
        have eb := To.fn y2 (To.same a2.hh z2)
        cases eb
        replace p1 : PoS X.K (ecOf X.mg) W B F2 D (if ts.length < 1000000 then .nx (env.set i (some (.v (setP s q (ts ++ [t]))))) else .no) := p1
        split at p1
        · rename_i hl
          have nas : ∀ b ∈ as, b ≠ b0 := fun b hb z => by
            obtain ⟨o', w⟩ := y9
            rw [← z, fr b hb] at w; cases w
          have nbs : ∀ b ∈ as, b ∉ cs := fun b hb z => by
            obtain ⟨o', w⟩ := y8 b z
            rw [fr b hb] at w; cases w
          refine ⟨b0, us, v1, rfl, rfl, y4, by have := y5.len; have := million; omega, ?_⟩
          refine p1 σ _ F2 AfterS.refl (y10 (us ++ [v1]) (ts ++ [t]) (cs ++ (as ++ [])) (OwAll.app y5 (.cons o .nil)) ?_ ?_ ?_)
          · intro z
            rw [List.append_nil] at z
            rcases List.mem_append.mp z with z | z
            · exact y6 z
            · exact nas b0 z rfl
          · rw [List.append_nil]
            exact List.nodup_append.mpr ⟨y7, n, fun x hx y hy z => nbs y hy (z ▸ hx)⟩
          · intro b hb
            rw [List.append_nil] at hb
            exact (List.mem_append.mp hb).imp id (fr b)
        · exact p1.elim
end
end DL
namespace DL
open PySem PySem.Spec PyProof.Rows L2
variable [Tabs]
/-- a slot's value is taken out of it -/
theorem OwEn.take {K : PySem.W.Frag} {F H : Hp} : ∀ {σ : L2.St} {env : En} {as : List Addr} {i : Nat} {s : Sl}, OwEn K F H σ env as → as.Nodup → env[i]? = some (some s) →
    ∃ v bs cs, σ[i]? = some (some v) ∧ OwS K F H v s bs ∧ bs.Nodup ∧ OwEn K F H σ (env.set i none) cs ∧ cs.Nodup ∧ (∀ x ∈ cs, x ∈ as) ∧ ∀ x ∈ bs, x ∈ as ∧ x ∉ cs
  | _, _, _, _, _, .nil, _, e => by simp at e
  | _, _, _, 0, _, .un t, _, e => by simp at e
  | _, _, _, i + 1, _, .un t, n, e => by
    obtain ⟨v, bs, cs, q1, q2, q3, q4, q5, q6, q7⟩ := OwEn.take (i := i) t n (by simpa using e)
    exact ⟨v, bs, cs, by simpa using q1, q2, q3, .un q4, q5, q6, q7⟩
  | _, _, _, 0, _, .so (v := v) (bs := bs) (as := as) h t, n, e => by
    simp at e; subst e
    have n' := List.nodup_append.mp n
    exact ⟨v, bs, as, rfl, h, n'.1, .un t, n'.2.1, fun x hx => List.mem_append_right _ hx, fun x hx => ⟨List.mem_append_left _ hx, fun z => n'.2.2 x hx x z rfl⟩⟩
  | _, _, _, i + 1, _, .so (bs := hs) (as := as) h t, n, e => by
    have n' := List.nodup_append.mp n
    obtain ⟨v, bs, cs, q1, q2, q3, q4, q5, q6, q7⟩ := OwEn.take (i := i) t n'.2.1 (by simpa using e)
    refine ⟨v, bs, hs ++ cs, by simpa using q1, q2, q3, .so h q4, List.nodup_append.mpr ⟨n'.1, q5, fun x hx y hy z => n'.2.2 x hx y (q6 y hy) z⟩, fun x hx => ?_, fun x hx => ⟨List.mem_append_right _ (q7 x hx).1, fun hm => ?_⟩⟩
    · exact (List.mem_append.mp hx).elim (List.mem_append_left _) fun z => List.mem_append_right _ (q6 x z)
    · rcases List.mem_append.mp hm with z | z
      · exact n'.2.2 x z x (q7 x hx).1 rfl
      · exact (q7 x hx).2 z
section
variable {X : Cx} {W : WX} {k : Nat} {m : Md} {pos pos' : Pos} {e c tg iter ei a b : Expr} {f fi g : En → R D} {fo : En → R S} {fp : En → R (List Nat)} {t : En → R Bool} {st : Stmt} {sts body : List Stmt} {T U : En → SR}
/-- the last steps of a store at an index -/
def putS (i : Nat) (env : En) (s : S) (p : List Nat) (ts : List S) (t : S) (fi : En → R D) : SR := (fi env).st env fun d => match d with
  | .int j => match ixN ts.length j with
    | some n => .nx (env.set i (some (.v (setP s p (ts.set n t)))))
    | none => .no
  | _ => .no
/-- R[j] = e, R within a slot's own value -/
def siP (i : Nat) (fp : En → R (List Nat)) (fo : En → R S) (fi : En → R D) : En → SR := fun env => (fo env).st env fun t => (fp env).st env fun p => match env[i]? with
  | some (some (.v s)) => match getP s p with
    | some ts => putS i env s p ts t fi
    | none => .no
  | _ => .no
/-- from the stored value on -/
theorem put_run {K : PySem.W.Frag} {ec : Str → Value} {B F H F1 H1 : Hp} {env : En} {σ : L2.St} {D : Ends} {i : Nat} {s t : S} {q : List Nat} {ts : List S} {v w u : V} {as : List Addr}
    (r : Rel K B F H env σ) (a : After F H F1 H1) (ee : env[i]? = some (some (.v s))) (ep : getP s q = some ts) (hv : σ[i]? = some (some v)) (o : Ow K F1 H1 u t as) (n : as.Nodup) (fr : ∀ b ∈ as, H b = none)
    (hto : To H1 v q w) (p : PoS K ec W B F1 D (putS i env s q ts t fi)) : tD K ec W .h fi σ H1 fun y H2 => rSetL w y u H2 fun H3 => D.nx σ H3 := by
  unfold putS at p
  have r1 := r.after a
  refine tD.st r1 p fun y H2 F2 d a2 r2 qd p2 => ?_
  obtain ⟨v', b1, us, cs, y1, y2, y3, y4, y5, y6, y7, y8, y9, y10⟩ := r.deep (a.trans a2) ee ep
  rw [hv] at y1; cases y1
  have eb := To.fn y2 (To.same a2.hh hto)
  cases eb
  cases d with
  | int j =>
    dsimp only at p2
    cases en : ixN ts.length j with
    | none => rw [en] at p2; exact p2.elim
    | some n1 =>
      rw [en] at p2
      have nas : ∀ b ∈ as, b ≠ b1 := fun b hb z => by
        obtain ⟨o', w⟩ := y9
        rw [← z, fr b hb] at w; cases w
      have nbs : ∀ b ∈ as, b ∉ cs := fun b hb z => by
        obtain ⟨o', w⟩ := y8 b z
        rw [fr b hb] at w; cases w
      have o2 : Ow K F2 H2 u t as := o.mono a2.ff _ _ _ fun b hb => a2.keepO (o.at _ _ _ b hb)
      obtain ⟨ds, w1, w2, w3⟩ := OwAll.set o2 n n1 y5 y7 nbs
      refine ⟨b1, us, j, n1, rfl, qd.intI, y4, by rw [y5.len]; exact en, ?_⟩
      refine p2 σ _ F2 AfterS.refl (y10 _ _ ds w1 (fun z => ?_) w2 fun b hb => (w3 b hb).imp id (fr b))
      rcases w3 b1 z with z | z
      · exact y6 z
      · exact nas b1 z rfl
  | _ => exact p2.elim
theorem ds_setP {x : Expr} {sp : Pos} {i : Nat} (hx : DRef X W x i fp) (he : DO X W e fo) (hi : DE X W .h ei fi)
    (ha : ∀ v, assign (.Subscript x ei sp) X.env v = (do
      let ov ← holding [v] (eval x X.env)
      let iv ← holding [v, ov] (eval ei X.env)
      standAt sp
      holding [v, ov, iv] (setItem ov iv v)
      release [v, ov, iv] []) := by intro _; rfl)
    (hs : swapsWithSole [.Subscript x ei sp] e pos.line X.env = pure false := by rfl) (hw : swappedStores [.Subscript x ei sp] e X.env = pure none := by rfl)
    (h1 : (assignEach [.Subscript x ei sp] X.env).map (·.2) = [assign (.Subscript x ei sp) X.env] := by rfl) :
    DS X W (.Assign [.Subscript x ei sp] e pos) (siP i fp fo fi) :=
  (ps_asg he (pg_sub hx.1 hi set_list ha) hs hw h1).wk fun D σ H ⟨B, F, env, r, p⟩ => tO.st r p fun v H1 F1 s as a r1 o n fr p1 => by
    refine ⟨B, F1, env, r1, ?_⟩
    cases e1 : fp env with
    | no => rw [e1] at p1; exact p1.elim
    | er c => rw [e1] at p1; exact fun H2 F2 a2 => p1 σ H2 F2 (a2.toS r1.bh) (r1.after a2)
    | ok q =>
      rw [e1] at p1
      obtain ⟨s0, t0, ee, eg⟩ := hx.2 env q e1
      replace p1 : PoS X.K (ecOf X.mg) W B F1 D (match env[i]? with
        | some (some (.v s1)) => match getP s1 q with
          | some ts => putS i env s1 q ts s fi
          | none => .no
        | _ => .no) := p1
      rw [ee] at p1
      dsimp only at p1
      intro v2 w H2 F2 a2 hv hto
      cases ep : getP s0 q with
      | none => rw [ep] at p1; exact p1.elim
      | some ts =>
        rw [ep] at p1
        have o2 : Ow X.K F2 H2 v s as := o.mono a2.ff _ _ _ fun b hb => a2.keepO (o.at _ _ _ b hb)
        exact put_run r (a.trans a2) ee ep hv o2 n fr hto (p1.after (a2.toS r1.bh))
theorem PoS.part {K : PySem.W.Frag} {ec : Str → Value} {B F : Hp} {D : Ends} {x : SR} {U : En → SR} (p : PoS K ec W B F D (x.sq U)) : PoS K ec W B F { D with nx := fun σ' H' => tS K ec W U D σ' H' } x := by
  cases x with
  | nx e1 => exact fun σ2 H2 F2 a r2 => ⟨B, F2, e1, r2, PoS.after (r := U e1) p a⟩
  | rt s => exact p
  | bk s => exact p
  | ct s => exact p
  | er c s => exact p
  | no => exact p
/-- y = R; y[j] = e: R within a slot's own value; y is not looked at again -/
def alS (i r : Nat) (fp : En → R (List Nat)) (fo : En → R S) (fi : En → R D) : En → SR := fun env => (fp env).st env fun p => match env[i]? with
  | some (some (.v s)) => if r = i ∨ env.length ≤ r then .no else match getP s p with
    | some ts => (fo (env.set r none)).st (env.set r none) fun t => putS i (env.set r none) s p ts t fi
    | none => .no
  | _ => .no
theorem dss_alias {x : Expr} {y : Str} {py py2 sp : Pos} {i : Nat} (r : Nat) (nd : X.N.Nodup) (hx : DRef X W x i fp) (he : DO X W e fo) (hi : DE X W .h ei fi) (hr : X.N[r]? = some y := by rfl) (hy : Loc X.env.scope y := by first | exact Or.inl rfl | exact Or.inr rfl)
    (hv : Vis X.env.scope y := by first | exact Or.inl rfl | exact Or.inr (Or.inl rfl) | exact Or.inr (Or.inr rfl)) (hd : (y == ("__debug__" : Str)) = false := by decide) (hcd : (y == ("__classdict__" : Str)) = false := by decide)
    (hs0 : swapsWith x (some (.Name y py)) pos.line X.env = pure false := by rfl) (hf : X.fn y = true ∨ X.env.scope.names.lookup y = some .local := by first | exact Or.inl rfl | exact Or.inr rfl)
    (ha : ∀ v, assign (.Subscript (.Name y py2) ei sp) X.env v = (do
      let ov ← holding [v] (eval (.Name y py2) X.env)
      let iv ← holding [v, ov] (eval ei X.env)
      standAt sp
      holding [v, ov, iv] (setItem ov iv v)
      release [v, ov, iv] []) := by intro _; rfl)
    (hs : swapsWithSole [.Subscript (.Name y py2) ei sp] e pos'.line X.env = pure false := by rfl) (hw : swappedStores [.Subscript (.Name y py2) ei sp] e X.env = pure none := by rfl)
    (h1 : (assignEach [.Subscript (.Name y py2) ei sp] X.env).map (·.2) = [assign (.Subscript (.Name y py2) ei sp) X.env] := by rfl)
    (h2 : DSs X W sts U) :
    DSs X W (.Assign [.Name y py] x pos :: .Assign [.Subscript (.Name y py2) ei sp] e pos' :: sts) (sqS (alS i r fp fo fi) U) :=
  (pss_cons (ps_set nd hr hy hx.1 hs0 hf) (pss_cons (ps_asg he (pg_sub (pe_var hr hv hd hcd) hi set_list ha) hs hw h1) h2)).wk fun D σ H ⟨B, F, env, rl, p⟩ => by
    replace p := PoS.part p
    refine ⟨B, F, env, rl, ?_⟩
    unfold alS at p
    cases e1 : fp env with
    | no => rw [e1] at p; exact p.elim
    | er c => rw [e1] at p; exact fun H1 F1 a1 => p σ H1 F1 (a1.toS rl.bh) (rl.after a1)
    | ok q =>
      rw [e1] at p
      obtain ⟨s0, t0, ee, eg⟩ := hx.2 env q e1
      rw [R.st_ok, ee] at p
      dsimp only at p
      intro v w H1 F1 a1 hv1 hto
      by_cases hri : r = i ∨ env.length ≤ r
      · rw [if_pos hri] at p; exact p.elim
      rw [if_neg hri] at p
      have hne : r ≠ i := fun z => hri (.inl z)
      cases ep : getP s0 q with
      | none => rw [ep] at p; exact p.elim
      | some ts =>
        rw [ep] at p
        dsimp only at p
        have r1 : Rel X.K B F1 H1 (env.set r none) (σ.set r (some w)) := (rl.after a1).drop
        have hlen : r < σ.length := by
          obtain ⟨as, h1, _⟩ := rl.sl
          rw [h1.len]
          exact Nat.lt_of_not_le fun z => hri (.inr z)
        have hw1 : (σ.set r (some w))[r]? = some (some w) := by rw [List.getElem?_set_self hlen]
        have hv2 : (σ.set r (some w))[i]? = some (some v) := by rw [List.getElem?_set_ne hne]; exact hv1
        have ee2 : (env.set r none)[i]? = some (some (.v s0)) := by rw [List.getElem?_set_ne hne]; exact ee
        refine tO.st r1 (p.after (a1.toS rl.bh)) fun u H2 F2 t as a2 r2 o n fr p2 => ?_
        refine ⟨w, hw1, ?_⟩
        exact put_run r1 a2 ee2 ep hv2 o n fr (To.same a2.hh hto) p2
/-- x.append(y), y a slot's own value that moves into it -/
def apV (i j : Nat) : En → SR := fun env => match env[i]? with
  | some (some (.v (.ow ss))) => match env[j]? with
    | some (some (.v t)) => if i = j then .no else if ss.length < 1000000 then .nx ((env.set i (some (.v (.ow (ss ++ [t]))))).set j none) else .no
    | _ => .no
  | _ => .no
theorem ds_appendV {x y : Str} {xp yp ap cp : Pos} (i j : Nat) (hN : X.N[i]? = some x := by rfl) (hv : Vis X.env.scope x := by first | exact Or.inl rfl | exact Or.inr (Or.inl rfl) | exact Or.inr (Or.inr rfl)) (hd : (x == ("__debug__" : Str)) = false := by decide)
    (hcd : (x == ("__classdict__" : Str)) = false := by decide) (hNy : X.N[j]? = some y := by rfl) (hvy : Vis X.env.scope y := by first | exact Or.inl rfl | exact Or.inr (Or.inl rfl) | exact Or.inr (Or.inr rfl)) (hdy : (y == ("__debug__" : Str)) = false := by decide)
    (hcdy : (y == ("__classdict__" : Str)) = false := by decide) (hss : starEach [.Name y yp] X.env = (false, eval (.Name y yp) X.env) :: starEach [] X.env := by rfl)
    (hbase : attributeBase (.Name x xp) "append" X.env (eval (.Name x xp) X.env) = eval (.Name x xp) X.env := by rfl)
    (hfew : ((backTo cp (starEach [.Name y yp] X.env)).all (fun x => !x.1) && (backToKw cp (keywordEach [] X.env)).all (fun x => x.1.isSome)
      && decide ([Expr.Name y yp].length + ([] : List Keyword).length + (if ([] : List Keyword).isEmpty then 0 else 1) < 30)) = true := by rfl)
    (hline : (ap.endLine == cp.line) = true := by rfl) (hplain : (backTo cp (starEach [] X.env)).any (·.1) = false := by rfl)
    (hs : swapsWith (.Call (.Attribute (.Name x xp) "append" ap) [.Name y yp] [] cp) none pos.line X.env = pure false := by rfl) :
    DS X W (.Expr (.Call (.Attribute (.Name x xp) "append" ap) [.Name y yp] [] cp) pos) (apV i j) :=
  (ps_expr (pe_bm F.plainAttrs_list F.slot_list_append F.type_list_append mt_append (pe_var hN hv hd hcd) (pa_cons (pe_var hNy hvy hdy hcdy) pa_nil hss) hbase hfew hline hss hplain) hs).wk fun D σ H ⟨B, F, env, r, p⟩ => by
    unfold apV at p
    split at p
    · rename_i ss ee
      split at p
      · rename_i t ej
        split at p
        · exact p.elim
        rename_i hij
        split at p
        · rename_i hl
          obtain ⟨as, h1, h2, h3⟩ := r.sl
          obtain ⟨vj, bj, ds, g1, g2, g3, g4, g5, g6, g7⟩ := h1.take h2 ej
          have ei2 : (env.set j none)[i]? = some (some (.v (.ow ss))) := by rw [List.getElem?_set_ne fun z => hij z.symm]; exact ee
          have r2 : Rel X.K B F H (env.set j none) σ := ⟨r.bh, r.fh, ds, g4, g5, fun a ha => h3 a (g6 a ha)⟩
          obtain ⟨a1, vs, bs, q1, q2, q3, q4, q5, q6, q7, q8, q9⟩ := g4.mut g5 ei2
          cases g2 with
          | v g2 =>
            refine ⟨.ref a1, q1, tyV_lst q3, vj, g1, a1, vs, vj, rfl, rfl, q3, by have := q4.len; have := million; omega, ?_⟩
            have nb : ∀ x ∈ bj, x ∉ bs := fun x hx z => (g7 x hx).2 (q8 x z)
            obtain ⟨es, w1, w2, w3⟩ := q9 (vs ++ [vj]) (ss ++ [t]) (bs ++ (bj ++ [])) (OwAll.app q4 (.cons g2 .nil)) (by
              intro z
              rw [List.append_nil] at z
              rcases List.mem_append.mp z with z | z
              · exact q6 z
              · exact (g7 a1 z).2 q5) (by
              rw [List.append_nil]
              exact List.nodup_append.mpr ⟨q7, g3, fun x hx y hy z => nb y hy (z ▸ hx)⟩) (by
              intro b hb
              rw [List.append_nil] at hb
              exact (List.mem_append.mp hb).imp id fun z => (g7 b z).2)
            refine p σ _ F AfterS.refl ⟨r.bh.updR _ _ (h3 a1 (g6 a1 q5)), r.fh.updR _ _ q2, es, ?_, w2, fun b hb => ?_⟩
            · rw [List.set_comm _ _ (fun z => hij z)]
              exact w1
            · rcases w3 b hb with z | z
              · exact h3 b (g6 b z)
              · rw [List.append_nil] at z
                rcases List.mem_append.mp z with y | y
                · exact h3 b (g6 b (q8 b y))
                · exact h3 b (g7 b y).1
        · exact p.elim
      · exact p.elim
    · exact p.elim
end
end DL
namespace DL
open PySem PySem.Spec PyProof.Rows L2
variable [Tabs]
/-! ### len(set(xs)), xs ints -/
/-- how many different ones -/
def difN (ns : List Int) : Nat := (firstMet (fun i => ns.getD i 0) ns.length).length
def tDif (K : PySem.W.Frag) (ta : TE) : TE := fun σ H Q => ta σ H fun x H1 =>
  ∃ (l : Addr) (ns : List Int), x = .ref l ∧ SqL K H1 l (ns.map V.int) ∧ ns.length ≤ 4000 ∧ Q (.int (difN ns : Nat)) H1
theorem pe_dif {X : Cx} {a : Expr} {ta : TE} {p p2 q pos : Pos} (hc : X.calm = true) (hg : Gl X "len") (hm : X.mg "len" = none) (hg2 : Gl X "set") (hm2 : X.mg "set" = none) (ha : PE X a ta)
    (na : starEach [a] X.env = (false, eval a X.env) :: starEach [] X.env := by rfl) : PE X (.Call (.Name "len" p) [.Call (.Name "set" p2) [a] [] q] [] pos) (tDif X.K ta) := ⟨fun pins s σ H Q I h => by
  refine Call_ (ld_blt I hg hm PySem.boot_len (callWith_builtin1 (args_cons ?_ rfl) rfl rfl))
  refine Call_ (ld_blt I hg2 hm2 PyProof.Rows.boot_set ?_)
  refine callWith_type1 (args_cons (thn (ha.run pins s σ H _ I h) fun v s1 ⟨x, H1, I1, r1, q1⟩ => args_nil ?_) na) na rfl
  obtain ⟨l, ns, hx, hq, hl, q1⟩ := q1
  subst hx
  cases r1
  obtain ⟨its, r, pl, _⟩ := I1.list hq
  have hz : its.toArray.size = ns.length := by
    rw [List.size_toArray, ← r.length, List.length_map]
  refine call_set_list (I1.ok.hd hc) pl.isList (by simpa using RZ.intsAre_vals r) (by rw [hz]; unfold scanBound; omega) fun h' tk hS hk => args_nil ?_
  rw [hz] at hS
  obtain ⟨o, es, _, _, ho, hex, hd, _, _, _, hf, hn⟩ := hS
  have le := firstMet_length_le (fun i => ns.getD i 0) ns.length
  have I2 : Inv X pins σ H1 { s1 with heap := h', toks := tk } := I1.kept fun b o e => hk b o (Heap.lt_size e) e
  exact call_len_set ho hex hd hf (by rw [hn]; omega) ⟨.int (difN ns : Nat), H1, I2.tok _, ⟨_, by rw [hn]; rfl⟩, q1⟩⟩
def difL (ns : List Int) : R D := if ns.length ≤ 4000 then .ok (.int (difN ns : Nat)) else .no
def difD : D → R D := onInts difL
def difR (f : En → R D) : En → R D := fun env => (f env).bind difD
theorem de_dif {X : Cx} {W : WX} {m : Md} {a : Expr} {fa : En → R D} {p p2 q pos : Pos} (hc : X.calm = true) (ha : DE X W .h a fa) (hg : Gl X "len" := by rfl) (hm : X.mg "len" = none) (hg2 : Gl X "set" := by rfl) (hm2 : X.mg "set" = none)
    (na : starEach [a] X.env = (false, eval a X.env) :: starEach [] X.env := by rfl) : DE X W m (.Call (.Name "len" p) [.Call (.Name "set" p2) [a] [] q] [] pos) (difR fa) :=
  (pe_dif hc hg hm hg2 hm2 ha na).wk fun σ H Q ⟨B, F, env, r, p⟩ => tD.bind r p fun v H1 F1 d a1 r1 q1 p1 => by
    obtain ⟨l, ns, rfl, h1, p1⟩ := onInts_r (F := F1) q1 p1 (fun z => z)
    unfold difL at p1
    split at p1
    · rename_i hl
      exact ⟨l, ns, rfl, h1, hl, p1 _ _ _ (After.refl r1.fh) (Rp.int _)⟩
    · exact p1.elim
/-! ### the outer list alone stays a slot's own -/
def flatS : S → S
  | .ow ss => .ow ((toDs ss).map .fr)
  | .tu ss => .fr (.tuple (toDs ss))
  | s => s
def flR (f : En → R S) : En → R S := fun env => (f env).bind fun s => .ok (flatS s)
theorem do_flat {X : Cx} {W : WX} {a : Expr} {f : En → R S} (h : DO X W a f) : DO X W a (flR f) := h.wk fun σ H Q ⟨B, F, env, r, p⟩ => by
  refine ⟨B, F, env, r, ?_⟩
  unfold flR at p
  cases e : f env with
  | er c => rw [e] at p; exact p
  | no => rw [e] at p; exact p
  | ok s =>
    rw [e] at p
    intro v H' F' as x o n fr
    replace p : PoO X.K (ecOf X.mg) W F H σ Q (.ok (flatS s)) := p
    cases s with
    | fr d => exact p v H' F' as x o n fr
    | tu ss =>
      obtain ⟨F2, y, z⟩ := frz x o fr
      rw [S.toD] at z
      exact p v H' F2 [] y (.fr z) .nil fun _ h => by cases h
    | ow ss =>
      cases o with
      | @ow a vs _ cs o1 o2 o3 =>
        have n' := List.nodup_cons.mp n
        have hF : ∀ b ∈ cs, F' b = none := fun b hb => (o3.at _ _ _ b hb).1
        have key : ∀ b u, F' b = some u → b ∉ cs := fun b u e z => by rw [hF b z] at e; cases e
        refine p (.ref a) H' (fun b => if b ∈ cs then H' b else F' b) [a] ⟨x.ff.trans (.mixF hF), .mixH x.fh, x.hh, fun b u e n => ?_⟩ (.ow (as := []) ?_ o2 (OwAll.ofDp ?_)) (by simp) fun b hb => fr b (by
          rcases List.mem_cons.mp hb with z | z
          · rw [z]; exact List.mem_cons_self
          · cases z)
        · split at e
          · rename_i hm
            exact fr b (List.mem_cons_of_mem _ hm)
          · exact x.nw b u e n
        · show (if a ∈ cs then H' a else F' a) = none
          rw [if_neg n'.1]
          exact o1
        · refine OwAll.dp (F := F') (H := H') (.mixF hF) _ _ _ o3 fun b hb => ?_
          show (if b ∈ cs then H' b else F' b) = H' b
          rw [if_pos hb]
end DL
namespace DL
open PySem PySem.Spec PyProof.Rows L2
variable [Tabs]
section
variable {prog : Program} {w : World} {A : Around} {E : Value → Shared → Prop} {s : Shared}
/-- list.__init__ of a fresh list S from an iterator that goes through items from behind -/
theorem init_rev {z l S : Addr} {items : Array Value} {R : Result → Shared → Prop} (hh : A.handled = none) (hz : s.heap.IsRevIter z l ((items.size : Int) - 1)) (hl : s.heap.IsList l items) (lz : l ≠ z) (hn : items.size ≤ sizeLine)
    (Sz : S ≠ z) (Sl : S ≠ l) (oS : s.heap.get? S = some { cls := .type "list", data := .seq #[] })
    (hR : ∀ (h' : Heap) (tk : Nat) (acc : Array Value) (c : Nat), (∀ b o, b ≠ z → b ≠ S → s.heap.get? b = some o → h'.get? b = some o) → h'.get? S = some { cls := .type "list", dict := none, data := .seq acc c, slots := #[] } →
      ItemsOf (fun i v => items[items.size - 1 - i]? = some v) acc items.size → R (.ok (.ret .none)) { s with heap := h', toks := tk }) :
    wpAny (model prog w) A.in1 (Builtin.«list.__init__» ⟨[.ref S, .ref z], []⟩)
      (fun fin s1 => match fin with | .done f => R (.ok f) s1 | .again d => d.quiet = true ∧ codeAny (model prog w) A d R s1) (fun e s1 => R (.error e) s1) s := by
  have W := (Walks.listRev (prog := prog) (w := w) (A := A.in1) hh z l lz items).toS
  have nS : S ∉ [z, l] := by
    intro hm
    rcases List.mem_cons.mp hm with q | q
    · exact Sz q
    · exact Sl (List.mem_singleton.mp q)
  show wpAny _ A.in1 (do let old ← Builtin.List.listItems (.ref S); Builtin.List.listUpdate (.ref S) (fun _ => #[]); letGo old.toList.reverse; Builtin.List.listExtendWith (.ref S) (.ref z) .none) _ _ s
  refine wpAny_bind ?_
  unfold Builtin.List.listItems
  refine wpAny_bind (wpAny_seqItems oS rfl (wpAny_pure ?_))
  show wpAny _ A.in1 (updateSeq S (fun _ => #[]) >>= fun _ => letGo (#[] : Array Value).toList.reverse >>= fun _ => Builtin.List.listExtendWith (.ref S) (.ref z) .none) _ _ s
  refine wpAny_bind (wpAny_updateSeq oS rfl ?_)
  have o2 := Heap.get?_update_self (Obj.mapSeq (fun _ => (#[] : Array Value))) oS rfl
  have kp : ∀ b o, b ≠ S → s.heap.get? b = some o → (s.heap.update S (Obj.mapSeq (fun _ => (#[] : Array Value)))).get? b = some o :=
    fun b o nb q => (Heap.get?_update_other _ _ (fun y => nb y.symm)).trans q
  refine wpAny_bind (wpAny_letGo ?_)
  generalize hX : (s.heap.update S (Obj.mapSeq (fun _ => (#[] : Array Value)))) = X2 at o2 kp ⊢
  have hz2 : X2.IsRevIter z l ((items.size : Int) - 1) := hz.at fun o q => kp _ _ (fun y => Sz y.symm) q
  have hl2 : X2.IsList l items := by
    obtain ⟨o, q1, q2⟩ := hl
    exact ⟨o, kp _ _ (fun y => Sl y.symm) q1, q2⟩
  have tz : ({ s with heap := X2 } : Shared).TypeIs (.ref z) "list_reverseiterator" := Heap.IsRevIter.typeIs (s := { s with heap := X2 }) hz2
  have ns : Builtin.List.listSameRef (.ref S) (.ref z) = false := by simp [Builtin.List.listSameRef, Sz]
  unfold Builtin.List.listExtendWith
  refine wpAny_bind (wpAny_typeOf tz ?_)
  rw [if_neg (by rw [ns]; decide)]
  refine wpAny_bind (wpAny_pyIter_revIter (s := { s with heap := X2 }) hz2 (wpAny_bind (wpAny_holding ?_)))
  unfold Builtin.List.listLengthHint
  refine wpAny_bind (wpAny_specialOf tz RT.nolen_lri ?_)
  show wpAny _ A.in1 (specialOf (Value.ref z) (Str.ofString "__length_hint__") >>= _) _ _ _
  refine wpAny_bind (wpAny_specialOf tz RT.hint_lri ?_)
  generalize hid : ("list_reverseiterator.__length_hint__" : String) = id9
  wp_delta
  rw [show splitId id9 = some ("list_reverseiterator", "__length_hint__") from by subst hid; decide +kernel]
  subst hid
  refine wpAny_bind (wpAny_isInstance (b := true) tz (by rw [isSubtype_type]; kernel_rfl) (wpAny_pure ?_))
  rw [if_neg (by decide)]
  have e9 : ((items.size : Nat) : Int) - 1 - ((0 : Nat) : Int) = (items.size : Int) - 1 := by omega
  refine wpAny_pure ⟨plainId_quiet F.plain_extend_loop _, codeAny_extend_loopS W hn _ nS _ items.size 0 _ _ _ rfl (Nat.zero_le _) ⟨Nat.zero_le _, by rw [e9]; exact hz2, hl2⟩ o2 (ItemsOf.nil _) fun s' acc c hm oS' ha => ?_⟩
  rw [Moved.eq_with hm]
  refine hR s'.heap s'.toks acc c (fun b o nz nS2 q => hm.heap b o (fun y => ?_) (kp b o nS2 q)) oS' ha
  rcases List.mem_cons.mp y with y | y
  · exact nS2 y
  · exact nz (List.mem_singleton.mp y)
/-- list(reversed(l)), from the iterator on -/
theorem call_rev {z l : Addr} {items : Array Value} {Q : Value → Shared → Prop} (hh : A.handled = none) (hz : s.heap.IsRevIter z l ((items.size : Int) - 1)) (hl : s.heap.IsList l items) (lz : l ≠ z) (hn : items.size ≤ sizeLine)
    (hQ : ∀ (h' : Heap) (tk : Nat) (acc : Array Value) (c : Nat), (∀ b o, b ≠ z → s.heap.get? b = some o → h'.get? b = some o) → h'.get? s.heap.objs.size = some { cls := .type "list", dict := none, data := .seq acc c, slots := #[] } →
      ItemsOf (fun i v => items[items.size - 1 - i]? = some v) acc items.size → Q (.ref s.heap.objs.size) { s with heap := h', toks := tk }) :
    wpAny (model prog w) A (call (.type "list") [.ref z]) Q E s := by
  obtain ⟨oz, q1, _⟩ := id hz
  obtain ⟨ol, q2, _⟩ := id hl
  refine callType_codes (Q₁ := fun obj s₁ => obj = .ref s.heap.objs.size ∧ s₁ = { s with heap := s.heap.push { cls := .type "list", data := .seq #[] } }) F.called_list (F.typeCall_list_1 _) F.entry_list_init
    (code_list_new _ ⟨rfl, rfl⟩) fun obj s₁ h1 => ?_
  obtain ⟨h1, h2⟩ := h1
  subst h1
  subst h2
  have oS : (s.heap.push { cls := .type "list", data := .seq #[] }).get? s.heap.objs.size = some { cls := .type "list", data := .seq #[] } := Heap.get?_push_size _ rfl
  refine ⟨⟨_, oS, rfl⟩, F.args_list_init_2 _ _, ?_⟩
  refine init_rev (A := A.in1) (s := { s with heap := s.heap.push { cls := .type "list", data := .seq #[] } }) hh (hz.at fun o q => Heap.get?_push_of_some _ q) (hl.push _) lz hn (fun y => Nat.ne_of_gt (Heap.lt_size q1) y) (fun y => Nat.ne_of_gt (Heap.lt_size q2) y) oS fun h' tk acc c k o' ha => ?_
  exact ⟨rfl, hQ h' tk acc c (fun b o nb q => k b o nb (fun y => absurd (Heap.lt_size q) (by rw [y]; exact Nat.lt_irrefl _)) (Heap.get?_push_of_some _ q)) o' ha⟩
end
section
variable {X : Cx}
def tLRev (K : PySem.W.Frag) (te : TE) : TE := fun σ H Q => te σ H fun v H1 => ∃ (a : Addr) (xs : List V), v = .ref a ∧ SqL K H1 a xs ∧ ∀ q, H1 q = none → Q (.ref q) (upd H1 q (.lst xs.reverse))
theorem pe_lrev {e : Expr} {te : TE} {p p2 pos pos2 : Pos} (hc : X.calm = true) (hg : Gl X "list") (hm : X.mg "list" = none) (hg2 : Gl X "reversed") (hm2 : X.mg "reversed" = none) (he : PE X e te)
    (na : starEach [e] X.env = (false, eval e X.env) :: starEach [] X.env := by rfl)
    (nb : starEach [.Call (.Name "reversed" p2) [e] [] pos2] X.env = (false, eval (.Call (.Name "reversed" p2) [e] [] pos2) X.env) :: starEach [] X.env := by rfl)
    (bl : bootBuiltins "list" = some (.type "list") := by decide +kernel) :
    PE X (.Call (.Name "list" p) [.Call (.Name "reversed" p2) [e] [] pos2] [] pos) (tLRev X.K te) := ⟨fun pins s σ H Q I h => by
  refine Call_ (ld_blt I hg hm bl (callWith_type1 (args_cons (Call_ (ld_blt I hg2 hm2 boot_reversed (callWith_type1 (args_cons (thn (he.run pins s σ H _ I h) fun u s1 ⟨v, H1, I1, r1, q1⟩ => args_nil ?_) na) na rfl))) nb) nb rfl))
  obtain ⟨a, xs, hv, hq, q⟩ := q1
  subst hv
  cases r1
  obtain ⟨its, rv, pl, hz⟩ := I1.list hq
  have hn : its.toArray.size ≤ sizeLine := by rw [List.size_toArray, ← rv.length]; exact hz
  refine call_reversed_list pl.isList (args_nil ?_)
  obtain ⟨oa, ha, _⟩ := id pl.isList
  refine call_rev (A := X.A) (I1.ok.hd hc) ⟨_, Heap.get?_push_size _ rfl, rfl, rfl⟩ (pl.isList.push _) (Nat.ne_of_lt (Heap.lt_size ha)) hn fun h' tk acc c k hS hi => ?_
  have sz : ∀ o : Obj, (s1.heap.push o).objs.size = s1.heap.objs.size + 1 := fun o => Heap.size_push ..
  have up : ∀ b u, s1.heap.get? b = some u → h'.get? b = some u := fun b u g => k b u (Nat.ne_of_lt (Heap.lt_size g)) (Heap.get?_push_of_some _ g)
  have lo : s1.heap.objs.size ≤ (s1.heap.push (revObj a ((its.toArray.size : Int) - 1))).objs.size := by
    rw [sz]; exact Nat.le_succ _
  exact ⟨.ref _, upd H1 _ (.lst xs.reverse), I1.laid (t' := tk) up lo (show ObjOk X.prog X.w _ h' _ (.lst xs.reverse) from ⟨by rw [List.length_reverse]; exact hz, acc.toList, c, RT.vals_rev rv hi, by rw [Array.toArray_toList]; exact hS⟩), rfl, q _ (I1.hok.fresh lo)⟩⟩
def lrvD : D → R S
  | .list ds => .ok (.ow (ds.reverse.map .fr))
  | _ => .no
def lrvR (f : En → R D) : En → R S := fun env => (f env).bind lrvD
theorem _root_.L2.DpAll.rev {K : PySem.W.Frag} {F : Hp} {vs : List V} {ds : List D} (h : DpAll K F vs ds) : DpAll K F vs.reverse ds.reverse := by
  have app : ∀ {vs ws : List V} {ds es : List D}, DpAll K F vs ds → DpAll K F ws es → DpAll K F (vs ++ ws) (ds ++ es) := fun {vs ws ds es} h1 h2 => by
    induction h1 using DpAll.rec (motive_1 := fun _ _ _ => True) with
    | nil => exact h2
    | cons a _ _ ih => exact .cons a ih
    | _ => trivial
  induction h using DpAll.rec (motive_1 := fun _ _ _ => True) with
  | nil => exact .nil
  | cons a _ _ ih => rw [List.reverse_cons, List.reverse_cons]; exact app ih (.cons a .nil)
  | _ => trivial
theorem do_lrev {W : WX} {a : Expr} {fa : En → R D} {p p2 pos pos2 : Pos} (hc : X.calm = true) (ha : DE X W .q a fa) (hg : Gl X "list" := by rfl) (hm : X.mg "list" = none) (hg2 : Gl X "reversed" := by rfl) (hm2 : X.mg "reversed" = none)
    (na : starEach [a] X.env = (false, eval a X.env) :: starEach [] X.env := by rfl)
    (nb : starEach [.Call (.Name "reversed" p2) [a] [] pos2] X.env = (false, eval (.Call (.Name "reversed" p2) [a] [] pos2) X.env) :: starEach [] X.env := by rfl) :
    DO X W (.Call (.Name "list" p) [.Call (.Name "reversed" p2) [a] [] pos2] [] pos) (lrvR fa) :=
  (pe_lrev hc hg hm hg2 hm2 ha na nb).wk fun σ H Q ⟨B, F, env, r, p⟩ => tD.bindO r p fun v H1 F1 d a1 r1 q1 p1 => by
    cases d with
    | list ds =>
      have fin : ∀ {a : Addr} {vs : List V}, SqL X.K H1 a vs → DpAll X.K F1 vs ds → ∃ (b : Addr) (xs : List V), V.ref a = .ref b ∧ SqL X.K H1 b xs ∧ ∀ q, H1 q = none → Q (.ref q) (upd H1 q (.lst xs.reverse)) :=
        fun {a vs} h1 h2 => ⟨a, vs, rfl, h1, fun q n => p1 _ _ _ [q] (After.newO r1.fh n) (.ow (as := []) (r1.fh.free n) upd_same (OwAll.ofDp h2.rev)) (by simp) fun x hx => by
          rcases List.mem_cons.mp hx with e | e
          · rw [e]; exact n
          · cases e⟩
      rcases q1 with q1 | ⟨a, vs, es, e1, e2, h1, h2⟩
      · cases q1 with
        | lst h1 h2 => exact fin (r1.fh.seq h1) h2
      · cases e2
        rw [e1]
        exact fin h1 h2
    | _ => exact p1.elim
end
end DL
namespace DL
open PySem PySem.Spec PyProof.Rows L2
/-! ### loops by an invariant -/
theorem forF_at {b : D → En → Option En} {T : En → SR} {A : Type} (cd : A → D) (I : Nat → En → Prop) : ∀ (ds : List A) (k : Nat) (env : En), I k env →
    (∀ i a env, ds[i]? = some a → I (k + i) env → ∃ e1 e2, b (cd a) env = some e1 ∧ (T e1 = .nx e2 ∨ T e1 = .ct e2) ∧ I (k + i + 1) e2) → ∃ e', forF b T (ds.map cd) env = .nx e' ∧ I (k + ds.length) e'
  | [], k, env, h, _ => ⟨env, rfl, h⟩
  | d :: ds, k, env, h, st => by
    obtain ⟨e1, e2, h1, h2, h3⟩ := st 0 d env rfl h
    obtain ⟨e', q1, q2⟩ := forF_at cd I ds (k + 1) e2 h3 fun i a env hi h => by
      have := st (i + 1) a env (by simpa using hi) (by rwa [Nat.add_assoc, Nat.add_comm 1 i] at h)
      rwa [show k + (i + 1) + 1 = k + 1 + i + 1 by omega] at this
    refine ⟨e', ?_, by rw [List.length_cons, show k + (ds.length + 1) = k + 1 + ds.length by omega]; exact q2⟩
    rw [List.map_cons, forF, h1]
    dsimp only
    rcases h2 with z | z
    · rw [z]; exact q1
    · rw [z]; exact q1
theorem forF_rng {b : D → En → Option En} {T : En → SR} (I : Nat → En → Prop) (n : Nat) (env : En) (h : I 0 env)
    (st : ∀ (i : Nat) env, i < n → I i env → ∃ e1 e2, b (.int (i : Int)) env = some e1 ∧ (T e1 = .nx e2 ∨ T e1 = .ct e2) ∧ I (i + 1) e2) : ∃ e', forF b T (rngL 0 n) env = .nx e' ∧ I n e' := by
  obtain ⟨e', h1, h2⟩ := forF_at (b := b) (T := T) (fun i : Nat => PyData.int (0 + (i : Int))) I (List.range n) 0 env h fun i a env hi hI => by
    have hl : i < n := by
      have := (List.getElem?_eq_some_iff.mp hi).1
      simpa using this
    have ha : a = i := by
      rw [List.getElem?_range hl] at hi
      cases hi; rfl
    subst ha
    rw [Nat.zero_add] at hI ⊢
    have := st a env hl hI
    rwa [show (0 : Int) + (a : Int) = (a : Int) by omega]
  refine ⟨e', h1, ?_⟩
  rwa [Nat.zero_add, List.length_range] at h2
theorem rng1_n {n : Nat} (h : n ≤ 1000000) : rng1 [.int n] = .ok (rngL 0 n) := by
  have hb : b62 n = true := by
    unfold b62; rw [Bool.and_eq_true]; exact ⟨decide_eq_true (by omega), decide_eq_true (by omega)⟩
  unfold rng1
  simp only [hb, if_true, Int.toNat_natCast]
@[simp] theorem e_apV {i j : Nat} {env : En} {ss : List S} {t : S} (h1 : env[i]? = some (some (.v (.ow ss)))) (h2 : env[j]? = some (some (.v t))) (h3 : i ≠ j) (h4 : ss.length < 1000000) : apV i j env = .nx ((env.set i (some (.v (.ow (ss ++ [t]))))).set j none) := by
  unfold apV
  rw [h1]
  dsimp only
  rw [h2]
  dsimp only
  rw [if_neg h3, if_pos h4]
end DL
namespace DL
open PySem PySem.Spec PyProof.Rows L2
variable [Tabs]
/-- two lists, one behind the other: a slot's own list -/
def addO (x y : D) : R S := match x, y with
  | .list xs, .list ys => if xs.length + ys.length ≤ sizeLine then .ok (.ow ((xs ++ ys).map .fr)) else .no
  | _, _ => .no
def adR (f g : En → R D) : En → R S := fun env => (f env).bind fun x => (g env).bind fun y => addO x y
theorem do_add {X : Cx} {W : WX} {a b : Expr} {fa fb : En → R D} {pos : Pos} (ha : DE X W .q a fa) (hb : DE X W .q b fb) : DO X W (.BinOp a .Add b pos) (adR fa fb) :=
  (pe_op op_addA ha hb).wk fun σ H Q ⟨B, F, env, r, p⟩ => tD.bindO r p fun v H1 F1 d a1 r1 q1 p1 => tD.bindO r1 p1 fun u H2 F2 e a2 r2 q2 p2 => by
    unfold addO at p2
    split at p2
    · rename_i xs ys
      split at p2
      · rename_i hl
        obtain ⟨a, vs, rfl, h1, h2⟩ := (q1.after a2).items (by intro z; cases z) r2.fh
        obtain ⟨b, us, rfl, h3, h4⟩ := q2.items (by intro z; cases z) r2.fh
        have e1 := h2.len
        have e2 := h4.len
        exact .inr (.inr (.inl ⟨a, b, vs, us, rfl, rfl, h1, h3, by omega, fun q n => p2 _ _ _ [q] (After.newO r2.fh n) (.ow (as := []) (r2.fh.free n) upd_same (OwAll.ofDp (h2.app h4))) (by simp) fun x hx => by
          rcases List.mem_cons.mp hx with z | z
          · rw [z]; exact n
          · cases z⟩))
      · exact p2.elim
    · exact p2.elim
@[simp] theorem addO_l (xs ys : List D) : addO (.list xs) (.list ys) = if xs.length + ys.length ≤ sizeLine then .ok (.ow ((xs ++ ys).map .fr)) else .no := rfl
@[simp] theorem e_adR {f g : En → R D} {env : En} : adR f g env = (f env).bind fun x => (g env).bind fun y => addO x y := rfl
@[simp] theorem e_flR {f : En → R S} {env : En} : flR f env = (f env).bind fun s => .ok (flatS s) := rfl
@[simp] theorem e_difR {f : En → R D} {env : En} : difR f env = (f env).bind difD := rfl
@[simp] theorem e_lrvR {f : En → R D} {env : En} : lrvR f env = (f env).bind lrvD := rfl
@[simp] theorem lrv_l (ds : List D) : lrvD (.list ds) = .ok (.ow (ds.reverse.map .fr)) := rfl
end DL
namespace ZN
open PySem
open Sem (wp)
section
variable {prog : Program} {w : World} {A : Around} {E : Value → Shared → Prop} {s : Shared}
abbrev IsZipF (h : Heap) (z TI TO : Addr) (f0 : Value) (b : Bool) : Prop :=
  h.get? z = some { cls := .type "zip", dict := none, data := .fields #[f0, .bool b, .bool false, .ref TI, .ref TO], slots := #[] }
abbrev IsTupN (h : Heap) (T : Addr) (vs : List Value) : Prop := h.get? T = some { cls := .type "tuple", data := .seq vs.toArray }
theorem typeCall_zip (vs : List Value) : checkTypeCall "zip" ⟨vs, []⟩ = pure () := by
  first | kernel_rfl | (unfold checkTypeCall; rfl)
theorem newCall_zip (a : Value) (r : List Value) : checkBuiltinCall "zip.__new__" ⟨.type "zip" :: a :: r, []⟩ = pure () := by kernel_rfl
theorem args_init (vs : List Value) (v : Value) : argsOk "object.__init__" ⟨v :: vs, []⟩ := by
  unfold argsOk; rw [signature?_of (id := "object.__init__") (n := ['_', '_', 't', 'i', 'n', 'i', '_', '_']) (o := ['t', 'c', 'e', 'j', 'b', 'o']) (by kernel_rfl) F.owner_object]; kernel_rfl
theorem wp_iterAll : ∀ (ls : List (Addr × Array Value)) (its : Array Value) (s : Shared) {Q : Array Value → Shared → Prop}, (∀ p ∈ ls, s.heap.IsList p.1 p.2) →
    (∀ h' its', h'.objs.size = s.heap.objs.size + ls.length → (∀ c o, s.heap.get? c = some o → h'.get? c = some o) → its' = (List.range ls.length).map (fun k => Value.ref (s.heap.objs.size + k)) →
      (∀ k p, ls[k]? = some p → h'.IsListIter (s.heap.objs.size + k) p.1 0) → Q (its ++ its'.toArray) { s with heap := h' }) →
    wpAny (model prog w) A (forIn (ls.map fun p => Value.ref p.1) its (fun x r => do let v ← holding r.toList (pyIter x); pure (ForInStep.yield (r.push v)))) Q E s
  | [], its, s, Q, _, hQ => by
    have := hQ s.heap [] rfl (fun _ _ x => x) rfl (fun k p h => by cases k <;> cases h)
    rw [List.map_nil, List.forIn_nil]
    exact wpAny_pure (by simpa using this)
  | (l, xs) :: r, its, s, Q, hl, hQ => by
    rw [List.map_cons, List.forIn_cons]
    have h0 : s.heap.IsList l xs := hl (l, xs) (List.mem_cons_self ..)
    refine wpAny_bind (wpAny_bind (wpAny_holding (wpAny_pyIter_list h0 (wpAny_pure ?_))))
    dsimp only
    obtain ⟨h1, e1⟩ : ∃ h1 : Heap, h1 = s.heap.push { cls := .type "list_iterator", data := .fields #[.ref l, .int 0 0] } := ⟨_, rfl⟩
    have k1 : h1.objs.size = s.heap.objs.size + 1 := by rw [e1]; exact Heap.size_push ..
    have k2 : ∀ c o, s.heap.get? c = some o → h1.get? c = some o := fun c o x => by rw [e1]; exact Heap.get?_push_of_some _ x
    have k3 : h1.IsListIter s.heap.objs.size l 0 := by rw [e1]; exact ⟨_, Heap.get?_push_size _ rfl, rfl, rfl⟩
    rw [← e1]
    refine wp_iterAll r _ { s with heap := h1 } (fun p hp => (hl p (List.mem_cons_of_mem _ hp)).at fun o e => k2 _ o e) fun h' its' q1 q2 q3 q4 => ?_
    replace q1 : h'.objs.size = h1.objs.size + r.length := q1
    replace q2 : ∀ c o, h1.get? c = some o → h'.get? c = some o := q2
    replace q3 : its' = (List.range r.length).map (fun k => Value.ref (h1.objs.size + k)) := q3
    replace q4 : ∀ k p, r[k]? = some p → h'.IsListIter (h1.objs.size + k) p.1 0 := q4
    rw [k1] at q1 q3
    have := hQ h' (Value.ref s.heap.objs.size :: its') (by rw [q1, List.length_cons]; omega) (fun c o x => q2 c o (k2 c o x)) (by
      rw [q3, List.length_cons, List.range_succ_eq_map, List.map_cons, List.map_map]
      congr 1
      apply List.map_congr_left
      intro k _
      show Value.ref (s.heap.objs.size + 1 + k) = Value.ref (s.heap.objs.size + (k + 1))
      rw [Nat.add_assoc, Nat.add_comm 1 k]) (fun k p hk => by
        cases k with
        | zero => cases hk; exact k3.at fun o e => q2 _ o e
        | succ k =>
          have := q4 k p (by simpa using hk)
          have e : h1.objs.size + k = s.heap.objs.size + (k + 1) := by rw [k1]; omega
          rw [← e]; exact this)
    have e : its ++ (Value.ref s.heap.objs.size :: its').toArray = its.push (Value.ref s.heap.objs.size) ++ its'.toArray := by
      apply Array.ext'
      simp
    rw [← e]
    exact this

theorem isType_type (n : String) {Q : Bool → Shared → Prop} (h : Q true s) : wpAny (model prog w) A (isType (.type n)) Q E s := by
  first | exact wpAny_pure h | (unfold isType; exact wpAny_pure h) | skip
theorem zip_new_at {ls : List (Addr × Array Value)} {Q : Value → Shared → Prop} (hz : ls.length ≤ 1000) (hl : ∀ p ∈ ls, s.heap.IsList p.1 p.2)
    (h : ∀ h', IsZipF h' (s.heap.objs.size + ls.length + 2) (s.heap.objs.size + ls.length) (s.heap.objs.size + ls.length + 1) .none false →
      IsTupN h' (s.heap.objs.size + ls.length) ((List.range ls.length).map fun k => Value.ref (s.heap.objs.size + k)) →
      IsTupN h' (s.heap.objs.size + ls.length + 1) (List.replicate ls.length .none) →
      (∀ k p, ls[k]? = some p → h'.IsListIter (s.heap.objs.size + k) p.1 0) → h'.objs.size = s.heap.objs.size + ls.length + 3 →
      (∀ c o, s.heap.get? c = some o → h'.get? c = some o) → Q (.ref (s.heap.objs.size + ls.length + 2)) { s with heap := h' }) :
    wpAny (model prog w) A (Builtin.«zip.__new__» ⟨.type "zip" :: (ls.map fun p => Value.ref p.1), []⟩) (fun fin s' => ∃ v, fin = .done (.ret v) ∧ Q v s') E s := by
  unfold Builtin.«zip.__new__»
  refine wpAny_bind ?_
  unfold Builtin.SmallTypes.newClass
  refine wpAny_bind (isType_type "zip" ?_)
  simp only [Bool.not_true, Bool.false_eq_true, if_false]
  rw [sub_zip]
  refine wpAny_bind (wpAny_pure (wpAny_pure ?_))
  show wpAny (model prog w) A (do
          let its ← Builtin.SmallTypes.iterAll (List.map (fun p => Value.ref p.fst) ls)
          let a ← newTuple its
          let b ← newTuple (List.map (fun x => Value.none) its)
          let c ← Builtin.SmallTypes.newRecord (.type "zip") (Builtin.SmallTypes.ownedTupleFields ++ [Value.bool false, a, b])
          ret c) _ E s
  refine wpAny_bind ?_
  unfold Builtin.SmallTypes.iterAll
  refine wpAny_bind (wp_iterAll ls #[] s hl fun h1 its q1 q2 q3 q4 => wpAny_pure ?_)
  subst q3
  have ez : (#[] ++ ((List.range ls.length).map fun k => Value.ref (s.heap.objs.size + k)).toArray : Array Value).toList = (List.range ls.length).map fun k => Value.ref (s.heap.objs.size + k) := by simp
  rw [ez]
  have z0 : (List.map (fun k => Value.ref (s.heap.objs.size + k)) (List.range ls.length)).length ≤ sizeLine := by
    rw [List.length_map, List.length_range]; exact Nat.le_trans hz (by decide)
  refine wpAny_bind (wpAny_newTuple (hsz := z0) (wpAny_bind (wpAny_newTuple (hsz := by rw [List.length_map]; exact z0) (wpAny_bind ?_))))
  unfold Builtin.SmallTypes.newRecord
  have e0 : (List.map (fun _ => Value.none) (List.map (fun k => Value.ref (s.heap.objs.size + k)) (List.range ls.length))) = List.replicate ls.length Value.none := by
    rw [List.map_map, Function.comp_def, List.map_const', List.length_range]
  rw [e0]
  obtain ⟨h2, e2⟩ : ∃ h2 : Heap, h2 = h1.push { cls := .type "tuple", data := .seq ((List.range ls.length).map fun k => Value.ref (s.heap.objs.size + k)).toArray } := ⟨_, rfl⟩
  have k1 : h2.objs.size = s.heap.objs.size + ls.length + 1 := by rw [e2, Heap.size_push, q1]
  have k2 : ∀ c o, h1.get? c = some o → h2.get? c = some o := fun c o x => by rw [e2]; exact Heap.get?_push_of_some _ x
  have k3 : IsTupN h2 h1.objs.size ((List.range ls.length).map fun k => Value.ref (s.heap.objs.size + k)) := by rw [e2]; exact Heap.get?_push_size _ rfl
  obtain ⟨h3, e3⟩ : ∃ h3 : Heap, h3 = h2.push { cls := .type "tuple", data := .seq (List.replicate ls.length Value.none).toArray } := ⟨_, rfl⟩
  have m1 : h3.objs.size = s.heap.objs.size + ls.length + 2 := by rw [e3, Heap.size_push, k1]
  have m2 : ∀ c o, h2.get? c = some o → h3.get? c = some o := fun c o x => by rw [e3]; exact Heap.get?_push_of_some _ x
  have m3 : IsTupN h3 h2.objs.size (List.replicate ls.length Value.none) := by rw [e3]; exact Heap.get?_push_size _ rfl
  rw [← e2]
  show wpAny (model prog w) A (newObj (.type "zip") (.fields #[.none, .bool false, .bool false, .ref h1.objs.size, .ref h2.objs.size])) _ E { s with heap := h2.push { cls := .type "tuple", data := .seq (List.replicate ls.length Value.none).toArray } }
  rw [← e3]
  refine wpAny_newObj_type (hd := by show (5 : Nat) ≤ _; decide) (wpAny_pure ⟨_, rfl, ?_⟩)
  obtain ⟨h4, e4⟩ : ∃ h4 : Heap, h4 = h3.push { cls := .type "zip", data := .fields #[.none, .bool false, .bool false, .ref h1.objs.size, .ref h2.objs.size] } := ⟨_, rfl⟩
  have n1 : h4.objs.size = s.heap.objs.size + ls.length + 3 := by rw [e4, Heap.size_push, m1]
  have n2 : ∀ c o, h3.get? c = some o → h4.get? c = some o := fun c o x => by rw [e4]; exact Heap.get?_push_of_some _ x
  have n3 : IsZipF h4 h3.objs.size h1.objs.size h2.objs.size .none false := by rw [e4]; exact Heap.get?_push_size _ rfl
  show Q (Value.ref h3.objs.size) { s with heap := h3.push { cls := .type "zip", data := .fields #[.none, .bool false, .bool false, .ref h1.objs.size, .ref h2.objs.size] } }
  rw [← e4, m1]
  rw [q1] at k3
  rw [k1] at m3
  rw [m1, q1, k1] at n3
  exact h h4 n3 (n2 _ _ (m2 _ _ k3)) (n2 _ _ m3) (fun k p hk => (q4 k p hk).at fun o e => n2 _ _ (m2 _ _ (k2 _ _ e))) n1 fun c o x => n2 _ _ (m2 _ _ (k2 _ _ (q2 _ _ x)))
theorem call_zip_n {ls : List (Addr × Array Value)} {Q : Value → Shared → Prop} (hne : ls ≠ []) (hz : ls.length ≤ 1000) (hl : ∀ p ∈ ls, s.heap.IsList p.1 p.2)
    (h : ∀ h', IsZipF h' (s.heap.objs.size + ls.length + 2) (s.heap.objs.size + ls.length) (s.heap.objs.size + ls.length + 1) .none false →
      IsTupN h' (s.heap.objs.size + ls.length) ((List.range ls.length).map fun k => Value.ref (s.heap.objs.size + k)) →
      IsTupN h' (s.heap.objs.size + ls.length + 1) (List.replicate ls.length .none) →
      (∀ k p, ls[k]? = some p → h'.IsListIter (s.heap.objs.size + k) p.1 0) → h'.objs.size = s.heap.objs.size + ls.length + 3 →
      (∀ c o, s.heap.get? c = some o → h'.get? c = some o) → Q (.ref (s.heap.objs.size + ls.length + 2)) { s with heap := h' }) :
    wpAny (model prog w) A (call (.type "zip") (ls.map fun p => Value.ref p.1)) Q E s := by
  have hcn : checkBuiltinCall "zip.__new__" ⟨.type "zip" :: (ls.map fun p => Value.ref p.1), []⟩ = pure () := by
    cases ls with
    | nil => exact absurd rfl hne
    | cons a r => exact newCall_zip _ _
  generalize hvs : (ls.map fun p => Value.ref p.1) = vs at *
  have g : Meets (Builtin.«zip.__new__» ⟨.type "zip" :: vs, []⟩) (fun A R s => (∀ p ∈ ls, s.heap.IsList p.1 p.2) ∧ ∀ h' : Heap, IsZipF h' (s.heap.objs.size + ls.length + 2) (s.heap.objs.size + ls.length) (s.heap.objs.size + ls.length + 1) .none false →
      IsTupN h' (s.heap.objs.size + ls.length) ((List.range ls.length).map fun k => Value.ref (s.heap.objs.size + k)) →
      IsTupN h' (s.heap.objs.size + ls.length + 1) (List.replicate ls.length .none) →
      (∀ k p, ls[k]? = some p → h'.IsListIter (s.heap.objs.size + k) p.1 0) → h'.objs.size = s.heap.objs.size + ls.length + 3 →
      (∀ c o, s.heap.get? c = some o → h'.get? c = some o) → R (.ok (.ret (.ref (s.heap.objs.size + ls.length + 2)))) { s with heap := h' }) :=
    .of_wp fun prog w A R s hh => by
      rw [← hvs]
      exact zip_new_at hz hh.1 hh.2
  exact callType_new F.called_zip (by decide) (typeCall_zip _) hcn (fun obj => args_init _ obj) F.entry_zip_new g ⟨hl, fun h' a1 a2 a3 a4 a5 a6 => ⟨⟨_, a1, rfl⟩, h h' a1 a2 a3 a4 a5 a6⟩⟩
end
end ZN
namespace ZN
open PySem
open Sem (wp)
section
variable {prog : Program} {w : World} {A : Around} {E : Value → Shared → Prop} {s : Shared}
theorem wp_alive {M : Model} {a : Addr} {Q : Option Obj → Shared → Prop} (h : Q (s.heap.get? a) s) : wpAny M A (loadIfAlive a) Q E s := fun _ _ _ => h
theorem forIn_inv {M : Model} {α β : Type} {f : α → β → Sem (ForInStep β)} (B : Nat → β) (I : Nat → Shared → Prop) {Q : β → Shared → Prop} : ∀ (xs : List α) (k : Nat) (s : Shared), I k s →
    (∀ j x s, xs[j]? = some x → I (k + j) s → wpAny M A (f x (B (k + j))) (fun r s' => r = .yield (B (k + j + 1)) ∧ I (k + j + 1) s') E s) →
    (∀ s', I (k + xs.length) s' → Q (B (k + xs.length)) s') → wpAny M A (forIn xs (B k) f) Q E s
  | [], k, s, h, _, hQ => by
    rw [List.forIn_nil]
    exact wpAny_pure (hQ s h)
  | x :: xs, k, s, h, hs, hQ => by
    rw [List.forIn_cons]
    have h0 := hs 0 x s rfl h
    refine wpAny_bind (wpAny_mono h0 (fun r s1 ⟨hr, h1⟩ => ?_) fun _ _ x => x)
    subst hr
    dsimp only
    refine forIn_inv B I xs (k + 1) s1 h1 (fun j y s2 hj h2 => ?_) fun s' h' => ?_
    · have e : k + 1 + j = k + (j + 1) := by omega
      rw [e] at h2 ⊢
      exact hs (j + 1) y s2 (by simpa using hj) h2
    · have e : k + 1 + xs.length = k + (x :: xs).length := by rw [List.length_cons]; omega
      rw [e] at h' ⊢
      exact hQ s' h'
/-- the cells of a zip over lists -/
structure Sep (z TI TO : Addr) (cs : List (Addr × Addr)) : Prop where
  nd : (cs.map (·.1)).Nodup
  TIz : TI ≠ z
  TOz : TO ≠ z
  TITO : TI ≠ TO
  iz : ∀ c ∈ cs, c.1 ≠ z
  iTI : ∀ c ∈ cs, c.1 ≠ TI
  iTO : ∀ c ∈ cs, c.1 ≠ TO
  lz : ∀ c ∈ cs, c.2 ≠ z
  lTO : ∀ c ∈ cs, c.2 ≠ TO
  li : ∀ c ∈ cs, ∀ d ∈ cs, c.2 ≠ d.1
/-- outside of the cells all stands -/
def Kept (z TO : Addr) (cs : List (Addr × Addr)) (h h' : Heap) : Prop := h'.objs.size = h.objs.size ∧ ∀ c o, c ≠ z → c ≠ TO → c ∉ cs.map (·.1) → h.get? c = some o → h'.get? c = some o
theorem Kept.z {z TO : Addr} {cs : List (Addr × Addr)} {h h1 h2 : Heap} (k : Kept z TO cs h h1) (b : Heap.SameBut z h1 h2) : Kept z TO cs h h2 :=
  ⟨b.1.trans k.1, fun c o a1 a2 a3 e => b.extBut _ _ a1 (k.2 c o a1 a2 a3 e)⟩
theorem Kept.TO {z TO : Addr} {cs : List (Addr × Addr)} {h h1 h2 : Heap} (k : Kept z TO cs h h1) (b : Heap.SameBut TO h1 h2) : Kept z TO cs h h2 :=
  ⟨b.1.trans k.1, fun c o a1 a2 a3 e => b.extBut _ _ a2 (k.2 c o a1 a2 a3 e)⟩
theorem Kept.it {z TO i : Addr} {cs : List (Addr × Addr)} {h h1 h2 : Heap} (k : Kept z TO cs h h1) (hi : i ∈ cs.map (·.1)) (b : Heap.SameBut i h1 h2) : Kept z TO cs h h2 :=
  ⟨b.1.trans k.1, fun c o a1 a2 a3 e => b.extBut _ _ (fun q => a3 (q ▸ hi)) (k.2 c o a1 a2 a3 e)⟩
/-- the state of the iterators after the first j have turned -/
def Its (cs : List (Addr × Addr)) (i j : Nat) (h : Heap) : Prop := ∀ k c, cs[k]? = some c → h.IsListIter c.1 c.2 (if k < j then i + 1 else i)
theorem mem1 {cs : List (Addr × Addr)} {k : Nat} {c : Addr × Addr} (h : cs[k]? = some c) : c.1 ∈ cs.map (·.1) := List.mem_map.mpr ⟨c, List.mem_of_getElem? h, rfl⟩
theorem inj1 {cs : List (Addr × Addr)} (nd : (cs.map (·.1)).Nodup) {k l : Nat} {c d : Addr × Addr} (h : cs[k]? = some c) (h2 : cs[l]? = some d) (e : c.1 = d.1) : k = l := by
  have hk : k < (cs.map (·.1)).length := by
    rw [List.length_map]; exact (List.getElem?_eq_some_iff.mp h).1
  have hl : l < (cs.map (·.1)).length := by
    rw [List.length_map]; exact (List.getElem?_eq_some_iff.mp h2).1
  have e1 : (cs.map (·.1))[k] = (cs.map (·.1))[l] := by
    obtain ⟨_, r1⟩ := List.getElem?_eq_some_iff.mp h
    obtain ⟨_, r2⟩ := List.getElem?_eq_some_iff.mp h2
    simp only [List.getElem_map, r1, r2, e]
  exact (List.getElem_inj nd).mp e1
theorem Its.turn {cs : List (Addr × Addr)} {i j : Nat} {c : Addr × Addr} {h h' : Heap} (nd : (cs.map (·.1)).Nodup) (hj : cs[j]? = some c) (t : Its cs i j h) (n : h'.IsListIter c.1 c.2 (i + 1)) (b : Heap.SameBut c.1 h h') : Its cs i (j + 1) h' := by
  intro k d hk
  by_cases e : k = j
  · subst e
    rw [hj] at hk; cases hk
    rw [if_pos (Nat.lt_succ_self _)]; exact n
  · have := t k d hk
    have e2 : (if k < j + 1 then i + 1 else i) = if k < j then i + 1 else i := by
      by_cases q : k < j
      · rw [if_pos q, if_pos (by omega)]
      · rw [if_neg q, if_neg (by omega)]
    rw [e2]
    exact this.extBut b.extBut fun q => e (inj1 nd hk hj q)
theorem Its.over {cs : List (Addr × Addr)} {i j : Nat} {a : Addr} {h h' : Heap} (t : Its cs i j h) (ha : ∀ c ∈ cs, c.1 ≠ a) (b : Heap.SameBut a h h') : Its cs i j h' := fun k d hk => (t k d hk).extBut b.extBut (ha d (List.mem_of_getElem? hk))
def Lists (cs : List (Addr × Addr)) (i : Nat) (xs : List Value) (h : Heap) : Prop := xs.length = cs.length ∧ ∀ (k : Nat) (c : Addr × Addr) (x : Value), cs[k]? = some c → xs[k]? = some x → ∃ its : Array Value, h.IsList c.2 its ∧ its[i]? = some x
theorem Lists.kept {z TI TO : Addr} {cs : List (Addr × Addr)} {i : Nat} {xs : List Value} {h h' : Heap} (S : Sep z TI TO cs) (l : Lists cs i xs h) (k : Kept z TO cs h h') : Lists cs i xs h' :=
  ⟨l.1, fun j c x hj hx => by
    obtain ⟨its, q, r⟩ := l.2 j c x hj hx
    have hm := List.mem_of_getElem? hj
    refine ⟨its, q.at fun o e => k.2 _ o (S.lz c hm) (S.lTO c hm) (fun z => ?_) e, r⟩
    obtain ⟨d, hd, e⟩ := List.mem_map.mp z
    exact S.li c hm d hd e.symm⟩
end
end ZN
namespace ZN
open PySem
open Sem (wp)
section
variable {prog : Program} {w : World} {A : Around} {E : Value → Shared → Prop} {s : Shared}
theorem zipIdx_get {α : Type} {xs : List α} {j : Nat} {p : α × Nat} (h : xs.zipIdx[j]? = some p) : xs[j]? = some p.1 ∧ p.2 = j := by
  rw [List.getElem?_zipIdx] at h
  cases e : xs[j]? with
  | none => rw [e] at h; cases h
  | some a => rw [e] at h; cases h; exact ⟨rfl, by simp⟩
theorem updTup {T : Addr} {ws : List Value} {x : Value} {k : Nat} {Q : Unit → Shared → Prop} (hT : IsTupN s.heap T ws) (hz : ws.length ≤ sizeLine)
    (h : ∀ h', IsTupN h' T (ws.set k x) → Heap.SameBut T s.heap h' → Q () { s with heap := h' }) :
    wpAny (model prog w) A (updateSeq T (·.setIfInBounds k x)) Q E s := by
  refine wpAny_updateSeq hT rfl (h _ ?_ (Heap.SameBut.update ..)) (by simpa using hz) (by simp; omega)
  show Heap.get? _ _ = _
  rw [Heap.get?_update_self _ hT rfl]
  simp [Obj.mapSeq]
theorem next_free {z TI TO : Addr} {cs : List (Addr × Addr)} {i : Nat} {xs ws : List Value} {f0 : Value} {b : Bool} {Q : Value → Shared → Prop} (S : Sep z TI TO cs) (hn : cs ≠ []) (hl : cs.length ≤ 1000)
    (hf : ∀ (Q2 : Bool → Shared → Prop), Q2 true s → wpAny (model prog w) A (Builtin.SmallTypes.ownedTupleIsFree (.ref z)) Q2 E s)
    (hz : IsZipF s.heap z TI TO f0 b) (hTI : IsTupN s.heap TI (cs.map fun c => Value.ref c.1)) (hTO : IsTupN s.heap TO ws) (hw : ws.length = cs.length) (hi : Its cs i 0 s.heap) (hx : Lists cs i xs s.heap)
    (hQ : ∀ h' f1 b1 ws', IsZipF h' z TI TO f1 b1 → (f1 = f0 ∨ f1 = rawInt s.heap.objs.size) → IsTupN h' TO ws' → ws'.length = cs.length → Its cs (i + 1) 0 h' → IsTupN h' s.heap.objs.size xs → h'.objs.size = s.heap.objs.size + 1 →
      (∀ c o, c ≠ z → c ≠ TO → c ∉ cs.map (·.1) → s.heap.get? c = some o → h'.get? c = some o) → Q (.ref s.heap.objs.size) { s with heap := h' }) :
    wpAny (model prog w) A (Builtin.«zip.__next__» ⟨[.ref z], []⟩) (fun fin s' => ∃ v, fin = .done (.ret v) ∧ Q v s') E s := by
  show wpAny _ _ (field (.ref z) 2 >>= _) _ _ _
  refine wpAny_bind (wpAny_field hz rfl (x := .bool false) rfl ?_)
  show wpAny _ _ (field (.ref z) 3 >>= _) _ _ _
  refine wpAny_bind (wpAny_field hz rfl (x := .ref TI) rfl ?_)
  refine wpAny_bind (wpAny_seqItems hTI rfl ?_)
  dsimp only
  rw [if_neg (by simpa [Array.isEmpty] using hn)]
  refine wpAny_bind (hf _ ?_)
  simp only [if_true]
  refine wpAny_bind (wpAny_rule ?_)
  refine wpAny_bind (wpAny_field hz rfl (x := .ref TO) rfl ?_)
  refine wpAny_bind (wpAny_setField_rec hz (by simp) fun g0 hz0 hs0 => ?_)
  replace hz0 : IsZipF g0 z TI TO .ellipsis b := hz0
  have hit : ∀ (j : Nat) (c : Addr × Addr), cs[j]? = some c → c ∈ cs := fun j c h => List.mem_of_getElem? h
  refine wpAny_bind (forIn_inv (fun _ => (none, ())) (fun j s' => ∃ g ws', s' = { s with heap := g } ∧ IsZipF g z TI TO .ellipsis b ∧ IsTupN g TO ws' ∧ ws'.length = cs.length ∧ (∀ k, k < j → ws'[k]? = xs[k]?) ∧ Its cs i j g ∧ Kept z TO cs s.heap g) _ 0 _
    ⟨g0, ws, rfl, hz0, hs0.extBut _ _ S.TOz hTO, hw, (fun k h => absurd h (Nat.not_lt_zero _)), hi.over S.iz hs0, Kept.z ⟨rfl, fun _ _ _ _ _ e => e⟩ hs0⟩ ?_ ?_)
  · intro j p s1 hp ⟨g, ws1, e1, hz1, hT1, hl1, hw1, hi1, hk1⟩
    subst e1
    rw [Nat.zero_add] at hw1 hi1 ⊢
    obtain ⟨hp1, hp2⟩ := zipIdx_get hp
    obtain ⟨v, k⟩ := p
    dsimp only at hp1 hp2
    subst hp2
    rw [List.getElem?_map] at hp1
    cases hc : cs[k]? with
    | none => rw [hc] at hp1; cases hp1
    | some c =>
      rw [hc] at hp1
      obtain rfl : Value.ref c.1 = v := by simpa using hp1
      have hm := hit k c hc
      have hkl : k < cs.length := (List.getElem?_eq_some_iff.mp hc).1
      have hxk : k < xs.length := by rw [hx.1]; exact hkl
      obtain ⟨its, q1, q2⟩ := (hx.kept S hk1).2 k c xs[k] hc (by simp [hxk])
      have hit1 : g.IsListIter c.1 c.2 i := by
        have := hi1 k c hc
        rwa [if_neg (Nat.lt_irrefl _)] at this
      refine wpAny_bind (wpAny_onRaise ?_)
      show wpAny _ _ (Builtin.SmallTypes.nextOf (.ref c.1) >>= _) _ _ _
      refine wpAny_bind (wpAny_nextOf_list_item (s := { s with heap := g }) hit1 q1 q2 fun g1 h1 hs1 => wpAny_pure ?_)
      replace hs1 : Heap.SameBut c.1 g g1 := hs1
      have hT2 : IsTupN g1 TO ws1 := hs1.extBut _ _ (fun e => S.iTO c hm e.symm) hT1
      refine wpAny_bind (wpAny_seqItems (s := { s with heap := g1 }) hT2 rfl ?_)
      refine wpAny_bind (updTup (s := { s with heap := g1 }) hT2 (by rw [hl1]; exact Nat.le_trans hl (by decide)) fun g2 hT3 hs2 => ?_)
      replace hs2 : Heap.SameBut TO g1 g2 := hs2
      refine wpAny_bind (wpAny_letGo (wpAny_pure ⟨rfl, g2, _, rfl, ?_, hT3, by rw [List.length_set, hl1], fun l hlt => ?_, ?_, ?_⟩))
      · exact hs2.extBut _ _ S.TOz.symm (hs1.extBut _ _ (fun e => S.iz c hm e.symm) hz1)
      · rw [List.getElem?_set]
        by_cases e : k = l
        · subst e
          rw [if_pos rfl, if_pos (by rw [hl1]; exact hkl)]
          simp [hxk]
        · rw [if_neg e]
          exact hw1 l (by omega)
      · exact (hi1.turn S.nd hc (h1) hs1).over (S.iTO) hs2
      · exact (hk1.it (mem1 hc) hs1).TO hs2
  · intro s' ⟨g, ws1, e1, hz1, hT1, hl1, hw1, hi1, hk1⟩
    subst e1
    rw [Nat.zero_add, List.length_zipIdx, List.length_map] at hw1 hi1
    have ew : ws1 = xs := by
      apply List.ext_getElem?
      intro k
      by_cases h : k < cs.length
      · exact hw1 k h
      · rw [List.getElem?_eq_none (by omega), List.getElem?_eq_none (by rw [hx.1]; omega)]
    subst ew
    refine wpAny_bind (wpAny_seqItems (s := { s with heap := g }) hT1 rfl ?_)
    dsimp only
    refine wpAny_bind (wpAny_newTuple (hsz := by rw [hl1]; exact Nat.le_trans hl (by decide)) ?_)
    have hsz : g.objs.size = s.heap.objs.size := hk1.1
    obtain ⟨g1, e1⟩ : ∃ g1 : Heap, g1 = g.push { cls := .type "tuple", data := .seq ws1.toArray } := ⟨_, rfl⟩
    have k1 : g1.objs.size = s.heap.objs.size + 1 := by rw [e1, Heap.size_push, hsz]
    have k2 : ∀ c o, g.get? c = some o → g1.get? c = some o := fun c o x => by rw [e1]; exact Heap.get?_push_of_some _ x
    have k3 : IsTupN g1 s.heap.objs.size ws1 := by rw [e1, ← hsz]; exact Heap.get?_push_size _ rfl
    show wpAny (model prog w) A (Builtin.SmallTypes.ownedTupleHandOut (.ref z) (.ref g.objs.size) >>= _) _ _ { s with heap := g.push { cls := .type "tuple", data := .seq ws1.toArray } }
    rw [← e1, hsz]
    refine wpAny_bind ?_
    unfold Builtin.SmallTypes.ownedTupleHandOut
    have hz2 : IsZipF g1 z TI TO .ellipsis b := k2 _ _ hz1
    refine wpAny_bind (wpAny_setField_rec (s := { s with heap := g1 }) hz2 (by simp) fun g2 hz3 hs2 => ?_)
    replace hz3 : IsZipF g2 z TI TO (rawInt s.heap.objs.size) b := hz3
    replace hs2 : Heap.SameBut z g1 g2 := hs2
    refine wpAny_setField_rec (s := { s with heap := g2 }) hz3 (by simp) fun g3 hz4 hs3 => ?_
    replace hz4 : IsZipF g3 z TI TO (rawInt s.heap.objs.size) false := hz4
    replace hs3 : Heap.SameBut z g2 g3 := hs3
    have up : ∀ c o, c ≠ z → g1.get? c = some o → g3.get? c = some o := fun c o c1 e => hs3.extBut _ _ c1 (hs2.extBut _ _ c1 e)
    have hzlt : z < s.heap.objs.size := Heap.lt_size hz
    refine wpAny_pure ⟨_, rfl, hQ g3 _ _ ws1 hz4 (.inr rfl) (up _ _ S.TOz (k2 _ _ hT1)) hl1 (fun k c hc => ?_) (up _ _ (Nat.ne_of_gt hzlt) k3) ?_ fun c o c1 c2 c3 e => up _ _ c1 (k2 _ _ (hk1.2 _ _ c1 c2 c3 e))⟩
    · have := hi1 k c hc
      rw [if_pos (List.getElem?_eq_some_iff.mp hc).1] at this
      rw [if_neg (Nat.not_lt_zero _)]
      exact this.at fun o e => up _ _ (S.iz c (hit k c hc)) (k2 _ _ e)
    · rw [hs3.1, hs2.1, k1]
theorem next_busy {z TI TO : Addr} {cs : List (Addr × Addr)} {i : Nat} {xs ws : List Value} {f0 : Value} {b : Bool} {Q : Value → Shared → Prop} (S : Sep z TI TO cs) (hn : cs ≠ []) (hl : cs.length ≤ 1000)
    (hf : ∀ (Q2 : Bool → Shared → Prop), (∀ h' b1, IsZipF h' z TI TO f0 b1 → (h' = s.heap ∨ Heap.SameBut z s.heap h') → Q2 false { s with heap := h' }) → wpAny (model prog w) A (Builtin.SmallTypes.ownedTupleIsFree (.ref z)) Q2 E s)
    (hz : IsZipF s.heap z TI TO f0 b) (hTI : IsTupN s.heap TI (cs.map fun c => Value.ref c.1)) (hTO : IsTupN s.heap TO ws) (hw : ws.length = cs.length) (hi : Its cs i 0 s.heap) (hx : Lists cs i xs s.heap)
    (hQ : ∀ h' f1 b1 ws', IsZipF h' z TI TO f1 b1 → (f1 = f0 ∨ f1 = rawInt s.heap.objs.size) → IsTupN h' TO ws' → ws'.length = cs.length → Its cs (i + 1) 0 h' → IsTupN h' s.heap.objs.size xs → h'.objs.size = s.heap.objs.size + 1 →
      (∀ c o, c ≠ z → c ≠ TO → c ∉ cs.map (·.1) → s.heap.get? c = some o → h'.get? c = some o) → Q (.ref s.heap.objs.size) { s with heap := h' }) :
    wpAny (model prog w) A (Builtin.«zip.__next__» ⟨[.ref z], []⟩) (fun fin s' => ∃ v, fin = .done (.ret v) ∧ Q v s') E s := by
  show wpAny _ _ (field (.ref z) 2 >>= _) _ _ _
  refine wpAny_bind (wpAny_field hz rfl (x := .bool false) rfl ?_)
  show wpAny _ _ (field (.ref z) 3 >>= _) _ _ _
  refine wpAny_bind (wpAny_field hz rfl (x := .ref TI) rfl ?_)
  refine wpAny_bind (wpAny_seqItems hTI rfl ?_)
  dsimp only
  rw [if_neg (by simpa [Array.isEmpty] using hn)]
  refine wpAny_bind (hf _ fun g0 b0 hz0 hs0 => ?_)
  simp only [Bool.false_eq_true, if_false]
  have hk0 : Kept z TO cs s.heap g0 := by
    rcases hs0 with e | hs0
    · rw [e]; exact ⟨rfl, fun _ _ _ _ _ e => e⟩
    · exact Kept.z ⟨rfl, fun _ _ _ _ _ e => e⟩ hs0
  have hi0 : Its cs i 0 g0 := by
    rcases hs0 with e | hs0
    · rw [e]; exact hi
    · exact hi.over S.iz hs0
  have hT0 : IsTupN g0 TO ws := by
    rcases hs0 with e | hs0
    · rw [e]; exact hTO
    · exact hs0.extBut _ _ S.TOz hTO
  have hit : ∀ (j : Nat) (c : Addr × Addr), cs[j]? = some c → c ∈ cs := fun j c h => List.mem_of_getElem? h
  rw [← Array.forIn_toList]
  refine wpAny_bind (forIn_inv (fun j => (none, (xs.take j).toArray)) (fun j s' => ∃ g, s' = { s with heap := g } ∧ IsZipF g z TI TO f0 b0 ∧ IsTupN g TO ws ∧ Its cs i j g ∧ Kept z TO cs s.heap g) _ 0 _
    ⟨g0, rfl, hz0, hT0, hi0, hk0⟩ ?_ ?_)
  · intro j v s1 hp ⟨g, e1, hz1, hT1, hi1, hk1⟩
    subst e1
    rw [Nat.zero_add] at hi1 ⊢
    have hp1 : (cs.map fun c => Value.ref c.1)[j]? = some v := by simpa using hp
    rw [List.getElem?_map] at hp1
    cases hc : cs[j]? with
    | none => rw [hc] at hp1; cases hp1
    | some c =>
      rw [hc] at hp1
      obtain rfl : Value.ref c.1 = v := by simpa using hp1
      have hm := hit j c hc
      have hkl : j < cs.length := (List.getElem?_eq_some_iff.mp hc).1
      have hxk : j < xs.length := by rw [hx.1]; exact hkl
      obtain ⟨its, q1, q2⟩ := (hx.kept S hk1).2 j c xs[j] hc (by simp [hxk])
      have hit1 : g.IsListIter c.1 c.2 i := by
        have := hi1 j c hc
        rwa [if_neg (Nat.lt_irrefl _)] at this
      refine wpAny_bind (wpAny_holding ?_)
      show wpAny _ _ (Builtin.SmallTypes.nextOf (.ref c.1) >>= _) _ _ _
      refine wpAny_bind (wpAny_nextOf_list_item (s := { s with heap := g }) hit1 q1 q2 fun g1 h1 hs1 => wpAny_pure ?_)
      replace hs1 : Heap.SameBut c.1 g g1 := hs1
      refine wpAny_pure ⟨?_, g1, rfl, hs1.extBut _ _ (fun e => S.iz c hm e.symm) hz1, hs1.extBut _ _ (fun e => S.iTO c hm e.symm) hT1, hi1.turn S.nd hc h1 hs1, hk1.it (mem1 hc) hs1⟩
      congr 2
      apply Array.ext'
      rw [List.take_add_one]
      simp [hxk]
  · intro s' ⟨g, e1, hz1, hT1, hi1, hk1⟩
    subst e1
    have el : 0 + (cs.map fun c => Value.ref c.1).toArray.toList.length = xs.length := by simp [hx.1]
    rw [el] at hi1 ⊢
    rw [hx.1] at hi1
    dsimp only
    rw [List.take_length]
    refine wpAny_bind (wpAny_newTuple (hsz := by show xs.length ≤ _; rw [hx.1]; exact Nat.le_trans hl (by decide)) ?_)
    have hsz : g.objs.size = s.heap.objs.size := hk1.1
    obtain ⟨g1, e1⟩ : ∃ g1 : Heap, g1 = g.push { cls := .type "tuple", data := .seq xs.toArray } := ⟨_, rfl⟩
    have k1 : g1.objs.size = s.heap.objs.size + 1 := by rw [e1, Heap.size_push, hsz]
    have k2 : ∀ c o, g.get? c = some o → g1.get? c = some o := fun c o x => by rw [e1]; exact Heap.get?_push_of_some _ x
    have k3 : IsTupN g1 s.heap.objs.size xs := by rw [e1, ← hsz]; exact Heap.get?_push_size _ rfl
    show wpAny (model prog w) A (ret (.ref g.objs.size)) _ _ { s with heap := g.push { cls := .type "tuple", data := .seq xs.toArray } }
    rw [← e1, hsz]
    refine wpAny_pure ⟨_, rfl, hQ g1 _ _ ws (k2 _ _ hz1) (.inl rfl) (k2 _ _ hT1) hw (fun k c hc => ?_) k3 k1 fun c o c1 c2 c3 e => k2 _ _ (hk1.2 _ _ c1 c2 c3 e)⟩
    have := hi1 k c hc
    rw [if_pos (List.getElem?_eq_some_iff.mp hc).1] at this
    rw [if_neg (Nat.not_lt_zero _)]
    exact this.at fun o e => k2 _ _ e
end
end ZN
namespace ZN
open PySem
open Sem (wp)
def FOk (f0 : Value) : Prop := f0 = .none ∨ ∃ T : Nat, f0 = rawInt T
section
variable {prog : Program} {w : World} {A : Around} {E : Value → Shared → Prop} {s : Shared}
theorem next_item {z TI TO : Addr} {cs : List (Addr × Addr)} {i : Nat} {xs ws : List Value} {f0 : Value} {b : Bool} {Q : Value → Shared → Prop} (S : Sep z TI TO cs) (hn : cs ≠ []) (hl : cs.length ≤ 1000)
    (hf : FOk f0)
    (hz : IsZipF s.heap z TI TO f0 b) (hTI : IsTupN s.heap TI (cs.map fun c => Value.ref c.1)) (hTO : IsTupN s.heap TO ws) (hw : ws.length = cs.length) (hi : Its cs i 0 s.heap) (hx : Lists cs i xs s.heap)
    (hQ : ∀ h' f1 b1 ws', IsZipF h' z TI TO f1 b1 → FOk f1 → IsTupN h' TO ws' → ws'.length = cs.length → Its cs (i + 1) 0 h' → IsTupN h' s.heap.objs.size xs → h'.objs.size = s.heap.objs.size + 1 →
      (∀ c o, c ≠ z → c ≠ TO → c ∉ cs.map (·.1) → s.heap.get? c = some o → h'.get? c = some o) → Q (.ref s.heap.objs.size) { s with heap := h' }) :
    wpAny (model prog w) A (Builtin.«zip.__next__» ⟨[.ref z], []⟩) (fun fin s' => ∃ v, fin = .done (.ret v) ∧ Q v s') E s := by
  have fk : ∀ f1, (f1 = f0 ∨ f1 = rawInt s.heap.objs.size) → FOk f1 := fun f1 h => by
    rcases h with rfl | rfl
    · exact hf
    · exact .inr ⟨_, rfl⟩
  have hq2 := fun h' f1 b1 ws' a1 (a2 : f1 = f0 ∨ f1 = rawInt s.heap.objs.size) => hQ h' f1 b1 ws' a1 (fk f1 a2)
  rcases id hf with e | ⟨T, e⟩
  · refine next_free S hn hl (fun Q2 h => ?_) hz hTI hTO hw hi hx hq2
    unfold Builtin.SmallTypes.ownedTupleIsFree
    subst e
    exact wpAny_bind (wpAny_field hz rfl (x := .none) rfl (wpAny_pure h))
  · cases ha : s.heap.get? T with
    | none =>
      refine next_free S hn hl (fun Q2 h => ?_) hz hTI hTO hw hi hx hq2
      unfold Builtin.SmallTypes.ownedTupleIsFree
      subst e
      refine wpAny_bind (wpAny_field hz rfl (x := rawInt T) rfl ?_)
      show wpAny _ _ (loadIfAlive T >>= _) _ _ _
      refine wpAny_bind (wp_alive ?_)
      rw [ha]
      exact wpAny_pure h
    | some o =>
      refine next_busy S hn hl (fun Q2 h => ?_) hz hTI hTO hw hi hx hq2
      unfold Builtin.SmallTypes.ownedTupleIsFree
      subst e
      refine wpAny_bind (wpAny_field hz rfl (x := rawInt T) rfl ?_)
      show wpAny _ _ (loadIfAlive T >>= _) _ _ _
      refine wpAny_bind (wp_alive ?_)
      rw [ha]
      show wpAny _ _ (field (.ref z) 1 >>= _) _ _ _
      refine wpAny_bind (wpAny_field hz rfl (x := .bool b) rfl ?_)
      cases b with
      | true =>
        exact wpAny_pure (h s.heap true hz (.inl rfl))
      | false =>
        show wpAny _ _ (setField (.ref z) 1 (.bool true) >>= _) _ _ _
        refine wpAny_bind (wpAny_setField_rec hz (by simp) fun g hg hs => wpAny_pure (h g true hg (.inr hs)))
theorem next_end {z TI TO : Addr} {cs : List (Addr × Addr)} {i : Nat} {ws : List Value} {f0 : Value} {b : Bool} {Q : Fin → Shared → Prop} (hh : A.handled = none) (S : Sep z TI TO cs) (hl : cs.length ≤ 1000)
    (hf : FOk f0) {c0 : Addr × Addr} {its : Array Value} (hc0 : cs[0]? = some c0) (hl0 : s.heap.IsList c0.2 its) (hend : its[i]? = none)
    (hz : IsZipF s.heap z TI TO f0 b) (hTI : IsTupN s.heap TI (cs.map fun c => Value.ref c.1)) (hi : Its cs i 0 s.heap)
    (hE : ∀ h' e, (∀ c o, c ≠ z → c ≠ TO → c ∉ cs.map (·.1) → s.heap.get? c = some o → h'.get? c = some o) → (∃ o, h'.get? e = some o ∧ o.cls = .type "StopIteration") → E (.ref e) { s with heap := h' }) :
    wpAny (model prog w) A (Builtin.«zip.__next__» ⟨[.ref z], []⟩) Q E s := by
  obtain ⟨rest, er⟩ : ∃ rest, cs = c0 :: rest := by
    cases cs with
    | nil => cases hc0
    | cons a r => cases hc0; exact ⟨r, rfl⟩
  have hm : c0 ∈ cs := List.mem_of_getElem? hc0
  have hit0 : s.heap.IsListIter c0.1 c0.2 i := by
    have := hi 0 c0 hc0
    rwa [if_neg (Nat.lt_irrefl _)] at this
  have free : ∀ g0 b0, IsZipF g0 z TI TO .ellipsis b0 → Heap.SameBut z s.heap g0 → ∀ {β : Type} {Q2 : β → Shared → Prop} {K : Value → Sem β}, wpAny (model prog w) A ((Builtin.SmallTypes.nextOf (.ref c0.1)) >>= K) Q2 (fun e s' => wpAny (model prog w) A (setField (.ref z) 0 .none) (fun _ s'' => E e s'') E s') { s with heap := g0 } := by
    intro g0 b0 hz0 hs0 β Q2 K
    refine wpAny_bind (wpAny_nextOf_list_end (s := { s with heap := g0 }) hh (hit0.extBut hs0.extBut (S.iz c0 hm)) (hl0.extBut hs0.extBut (S.lz c0 hm)) hend fun h₂ e hs₂ he => ?_)
    replace hs₂ : Heap.ExtBut c0.1 g0 h₂ := hs₂
    obtain ⟨oe, hoe, hce⟩ := he
    have hz₂ : IsZipF h₂ z TI TO .ellipsis b0 := hs₂ _ _ (S.iz c0 hm).symm hz0
    have hez : e ≠ z := fun x => by subst x; rw [hz₂] at hoe; cases hoe; simp at hce
    exact wpAny_setField_rec (s := { s with heap := h₂ }) hz₂ (by simp) fun h₃ _ hs₃ => hE h₃ e (fun c o c1 _ c3 x => hs₃.extBut _ _ c1 (hs₂ _ _ (fun q => c3 (q ▸ mem1 hc0)) (hs0.extBut _ _ c1 x))) ⟨oe, hs₃.extBut _ _ hez hoe, hce⟩
  have busy : ∀ g0, (g0 = s.heap ∨ Heap.SameBut z s.heap g0) → ∀ {β : Type} {Q2 : β → Shared → Prop} {K : Value → Sem β}, wpAny (model prog w) A ((Builtin.SmallTypes.nextOf (.ref c0.1)) >>= K) Q2 E { s with heap := g0 } := by
    intro g0 hs0 β Q2 K
    have up : ∀ c o, c ≠ z → s.heap.get? c = some o → g0.get? c = some o := fun c o c1 e => by
      rcases hs0 with h | h
      · rw [h]; exact e
      · exact h.extBut _ _ c1 e
    refine wpAny_bind (wpAny_nextOf_list_end (s := { s with heap := g0 }) hh (hit0.at fun o e => up _ o (S.iz c0 hm) e) (hl0.at fun o e => up _ o (S.lz c0 hm) e) hend fun h₂ e hs₂ he => ?_)
    replace hs₂ : Heap.ExtBut c0.1 g0 h₂ := hs₂
    exact hE h₂ e (fun c o c1 _ c3 x => hs₂ _ _ (fun q => c3 (q ▸ mem1 hc0)) (up _ _ c1 x)) he
  show wpAny _ _ (field (.ref z) 2 >>= _) _ _ _
  refine wpAny_bind (wpAny_field hz rfl (x := .bool false) rfl ?_)
  show wpAny _ _ (field (.ref z) 3 >>= _) _ _ _
  refine wpAny_bind (wpAny_field hz rfl (x := .ref TI) rfl ?_)
  refine wpAny_bind (wpAny_seqItems hTI rfl ?_)
  dsimp only
  rw [if_neg (by simp [Array.isEmpty, er])]
  subst er
  simp only [List.map_cons]
  refine wpAny_bind (wpAny_mono (Q := fun r s1 => ∃ g0, s1 = { s with heap := g0 } ∧ (r = true → ∃ f1, IsZipF g0 z TI TO f1 b) ∧ (g0 = s.heap ∨ Heap.SameBut z s.heap g0)) (E := fun _ _ => False) ?_ ?_ (fun _ _ h => h.elim))
  · unfold Builtin.SmallTypes.ownedTupleIsFree
    rcases id hf with e | ⟨T, e⟩
    · subst e
      exact wpAny_bind (wpAny_field hz rfl (x := .none) rfl (wpAny_pure ⟨s.heap, rfl, fun _ => ⟨_, hz⟩, .inl rfl⟩))
    · subst e
      refine wpAny_bind (wpAny_field hz rfl (x := rawInt T) rfl ?_)
      show wpAny _ _ (loadIfAlive T >>= _) _ _ _
      refine wpAny_bind (wp_alive ?_)
      cases ha : s.heap.get? T with
      | none => exact wpAny_pure ⟨s.heap, rfl, fun _ => ⟨_, hz⟩, .inl rfl⟩
      | some o =>
        show wpAny _ _ (field (.ref z) 1 >>= _) _ _ _
        refine wpAny_bind (wpAny_field hz rfl (x := .bool b) rfl ?_)
        cases b with
        | true => exact wpAny_pure ⟨s.heap, rfl, (fun h => nomatch h), .inl rfl⟩
        | false =>
          show wpAny _ _ (setField (.ref z) 1 (.bool true) >>= _) _ _ _
          exact wpAny_bind (wpAny_setField_rec hz (by simp) fun g hg hs => wpAny_pure ⟨g, rfl, (fun h => nomatch h), .inr hs⟩)
  · intro r s1 ⟨g0, e1, hr, hs0⟩
    subst e1
    cases r with
    | true =>
      obtain ⟨f1, hz1⟩ := hr rfl
      have up : ∀ c o, c ≠ z → s.heap.get? c = some o → g0.get? c = some o := fun c o c1 e => by
        rcases hs0 with h | h
        · rw [h]; exact e
        · exact h.extBut _ _ c1 e
      simp only [if_true]
      refine wpAny_bind (wpAny_rule ?_)
      refine wpAny_bind (wpAny_field (s := { s with heap := g0 }) hz1 rfl (x := .ref TO) rfl ?_)
      refine wpAny_bind (wpAny_setField_rec (s := { s with heap := g0 }) hz1 (by simp) fun g1 hz2 hs2 => ?_)
      replace hs2 : Heap.SameBut z g0 g1 := hs2
      simp only [List.zipIdx_cons, List.forIn_cons]
      refine wpAny_bind (wpAny_bind (wpAny_bind (wpAny_onRaise ?_)))
      exact free g1 b hz2 (by
        rcases hs0 with h | h
        · rw [← h]; exact hs2
        · exact ⟨hs2.1.trans h.1, fun c hc => (hs2.2 c hc).trans (h.2 c hc)⟩)
    | false =>
      simp only [Bool.false_eq_true, if_false]
      rw [← Array.forIn_toList]
      simp only [List.forIn_cons]
      refine wpAny_bind (wpAny_bind (wpAny_bind (wpAny_holding ?_)))
      exact busy g0 hs0
theorem pyNext_item {z TI TO : Addr} {cs : List (Addr × Addr)} {i : Nat} {xs ws : List Value} {f0 : Value} {b : Bool} {Q : Option Value → Shared → Prop} (S : Sep z TI TO cs) (hn : cs ≠ []) (hl : cs.length ≤ 1000)
    (hf : FOk f0)
    (hz : IsZipF s.heap z TI TO f0 b) (hTI : IsTupN s.heap TI (cs.map fun c => Value.ref c.1)) (hTO : IsTupN s.heap TO ws) (hw : ws.length = cs.length) (hi : Its cs i 0 s.heap) (hx : Lists cs i xs s.heap)
    (hQ : ∀ h' f1 b1 ws', IsZipF h' z TI TO f1 b1 → FOk f1 → IsTupN h' TO ws' → ws'.length = cs.length → Its cs (i + 1) 0 h' → IsTupN h' s.heap.objs.size xs → h'.objs.size = s.heap.objs.size + 1 →
      (∀ c o, c ≠ z → c ≠ TO → c ∉ cs.map (·.1) → s.heap.get? c = some o → h'.get? c = some o) → Q (some (.ref s.heap.objs.size)) { s with heap := h' }) :
    wpAny (model prog w) A (pyNext (.ref z)) Q E s := by
  have hT : s.TypeIs (.ref z) "zip" := ⟨_, hz, rfl⟩
  unfold pyNext
  exact wpAny_bind (wpAny_attempt (wpAny_callSpecial?_slot (name := Str.ofString "__next__") hT F.slot_zip_next
    (wpAny_call_entry F.slot_zip_next hT F.entry_zip_next
      (next_item S hn hl hf hz hTI hTO hw hi hx fun h' f1 b1 ws' a1 a2 a3 a4 a5 a6 a7 a8 => wpAny_pure (hQ h' f1 b1 ws' a1 a2 a3 a4 a5 a6 a7 a8)) (F.args_zip_next_1 _))))
theorem pyNext_end {z TI TO : Addr} {cs : List (Addr × Addr)} {i : Nat} {ws : List Value} {f0 : Value} {b : Bool} {Q : Option Value → Shared → Prop} (hh : A.handled = none) (S : Sep z TI TO cs) (hl : cs.length ≤ 1000)
    (hf : FOk f0) {c0 : Addr × Addr} {its : Array Value} (hc0 : cs[0]? = some c0) (hl0 : s.heap.IsList c0.2 its) (hend : its[i]? = none)
    (hz : IsZipF s.heap z TI TO f0 b) (hTI : IsTupN s.heap TI (cs.map fun c => Value.ref c.1)) (hi : Its cs i 0 s.heap)
    (hQ : ∀ h', (∀ c o, c ≠ z → c ≠ TO → c ∉ cs.map (·.1) → s.heap.get? c = some o → h'.get? c = some o) → Q none { s with heap := h' }) :
    wpAny (model prog w) A (pyNext (.ref z)) Q E s := by
  have hT : s.TypeIs (.ref z) "zip" := ⟨_, hz, rfl⟩
  unfold pyNext
  refine wpAny_bind (wpAny_attempt (wpAny_callSpecial?_slot (name := Str.ofString "__next__") hT F.slot_zip_next
    (wpAny_call_entry F.slot_zip_next hT F.entry_zip_next (next_end (ws := ws) hh S hl hf hc0 hl0 hend hz hTI hi fun h' e hk he => ?_) (F.args_zip_next_1 _))))
  obtain ⟨o, ho, hc⟩ := he
  refine wpAny_bind (wpAny_isInstance (T := "StopIteration") (b := true) ⟨o, ho, hc⟩ isSubtype_stop ?_)
  exact wpAny_pure (hQ _ hk)
theorem pyIter_zipF {z TI TO : Addr} {f0 : Value} {b : Bool} {Q : Value → Shared → Prop} (hz : IsZipF s.heap z TI TO f0 b) (h : Q (.ref z) s) : wpAny (model prog w) A (pyIter (.ref z)) Q E s := by
  have hT : s.TypeIs (.ref z) "zip" := ⟨_, hz, rfl⟩
  refine wpAny_pyIter_slot hT F.slot_zip_iter (wpAny_call_entry F.slot_zip_iter hT F.entry_zip_iter ?_ (F.args_zip_iter_1 _))
  show wpAny _ _ (ret (.ref z)) _ _ s
  exact wpAny_pure ⟨_, rfl, "zip", _, hT, F.slot_zip_next.lookup, h⟩
end
end ZN
namespace ZN
open PySem PySem.Spec PyProof.Rows L2
/-- the lists at the addresses as they stand at each turn, the items in new tuples -/
def Itn (K : PySem.W.Frag) (as : List Addr) : It :=
  ⟨fun i H => ∃ vs : List V, vs.length = as.length ∧ ∀ (k : Nat) (a : Addr) (v : V), as[k]? = some a → vs[k]? = some v → ∃ xs, SqL K H a xs ∧ xs[i]? = some v,
    fun i H v H' => ∃ (T : Addr) (vs : List V), v = .ref T ∧ H T = none ∧ H' = upd H T (.tup vs) ∧ vs.length = as.length ∧ ∀ (k : Nat) (a : Addr) (v : V), as[k]? = some a → vs[k]? = some v → ∀ xs, SqL K H a xs → xs[i]? = some v,
    fun i H => ∃ (a0 : Addr) (xs : List V), as[0]? = some a0 ∧ SqL K H a0 xs ∧ xs.length ≤ i⟩
theorem ne1 {a b : Nat} (h : a < b ∨ b < a) : @Ne Addr a b := fun e => by
  have e2 : a = b := e
  omega
def csOf (sz : Nat) (as : List Addr) : List (Addr × Addr) := as.zipIdx.map fun p => (sz + p.2, p.1)
theorem cs_len (sz : Nat) (as : List Addr) : (csOf sz as).length = as.length := by simp [csOf]
theorem cs_get (sz : Nat) (as : List Addr) (k : Nat) : (csOf sz as)[k]? = (as[k]?).map fun a => (sz + k, a) := by
  unfold csOf
  rw [List.getElem?_map, List.getElem?_zipIdx]
  cases as[k]? <;> simp
theorem cs_mem {sz : Nat} {as : List Addr} {c : Addr × Addr} (h : c ∈ csOf sz as) : @LE.le Nat _ sz c.1 ∧ @LT.lt Nat _ c.1 (sz + as.length) ∧ c.2 ∈ as := by
  obtain ⟨k, hk⟩ := List.getElem?_of_mem h
  rw [cs_get] at hk
  cases e : as[k]? with
  | none => rw [e] at hk; cases hk
  | some a =>
    rw [e] at hk; cases hk
    exact ⟨Nat.le_add_right _ _, Nat.add_lt_add_left (List.getElem?_eq_some_iff.mp e).1 _, List.mem_of_getElem? e⟩
theorem cs_fst (sz : Nat) (as : List Addr) : (csOf sz as).map (·.1) = (List.range as.length).map fun k => sz + k := by
  apply List.ext_getElem?
  intro k
  rw [List.getElem?_map, cs_get, List.getElem?_map]
  by_cases h : k < as.length
  · simp [h]
  · rw [List.getElem?_eq_none (by omega), List.getElem?_eq_none (by simp; omega)]; rfl
theorem cs_nd (sz : Nat) (as : List Addr) : ((csOf sz as).map (·.1)).Nodup := by
  rw [cs_fst]
  exact List.Pairwise.map _ (fun a b h => ne1 (by omega)) List.nodup_range
theorem sep_of {sz z TI TO : Nat} {as : List Addr} (h : ∀ a ∈ as, a < sz) (ez : z = sz + as.length + 2) (e1 : TI = sz + as.length) (e2 : TO = sz + as.length + 1) : Sep z TI TO (csOf sz as) where
  nd := cs_nd sz as
  TIz := ne1 (by omega)
  TOz := ne1 (by omega)
  TITO := ne1 (by omega)
  iz := fun c hc => ne1 (by have := cs_mem hc; omega)
  iTI := fun c hc => ne1 (by have := cs_mem hc; omega)
  iTO := fun c hc => ne1 (by have := cs_mem hc; omega)
  lz := fun c hc => ne1 (by have a1 := cs_mem hc; have a2 : @LT.lt Nat _ c.2 sz := h _ a1.2.2; omega)
  lTO := fun c hc => ne1 (by have a1 := cs_mem hc; have a2 : @LT.lt Nat _ c.2 sz := h _ a1.2.2; omega)
  li := fun c hc d hd => ne1 (by have a1 := cs_mem hc; have a2 : @LT.lt Nat _ c.2 sz := h _ a1.2.2; have a3 := cs_mem hd; omega)
theorem cols {X : Cx} {pins : List (Addr × Obj)} {σ : L2.St} {H : Hp} {s : Shared} (I : Inv X pins σ H s) {i : Nat} : ∀ (as : List Addr) (vs : List V), vs.length = as.length →
    (∀ (k : Nat) (a : Addr) (v : V), as[k]? = some a → vs[k]? = some v → ∃ xs, SqL X.K H a xs ∧ xs[i]? = some v) →
    ∃ us : List Value, Vals vs us ∧ us.length = as.length ∧ ∀ (k : Nat) (a : Addr) (u : Value), as[k]? = some a → us[k]? = some u → ∃ its : Array Value, s.heap.IsList a its ∧ its[i]? = some u
  | [], [], _, _ => ⟨[], .nil, rfl, fun k a u h _ => by cases k <;> cases h⟩
  | [], _ :: _, h, _ => by cases h
  | _ :: _, [], h, _ => by cases h
  | a :: as, v :: vs, h, hx => by
    obtain ⟨us, r, hl, q⟩ := cols I as vs (by simpa using h) fun k a v h1 h2 => hx (k + 1) a v h1 h2
    obtain ⟨xs, hq, hv⟩ := hx 0 a v rfl rfl
    obtain ⟨its, rv, p, _⟩ := I.list hq
    obtain ⟨u, hu, ru⟩ := rv.get hv
    refine ⟨u :: us, .cons ru r, by simp [hl], fun k b w h1 h2 => ?_⟩
    cases k with
    | zero => cases h1; cases h2; exact ⟨its.toArray, p.isList, by simpa using hu⟩
    | succ k => exact q k b w (by simpa using h1) (by simpa using h2)
theorem turn_zipN {P : Program} {w : World} {K : PySem.W.Frag} {x : Str} {tpos : Pos} {as : List Addr} {z TI TO : Addr} {cs : List (Addr × Addr)} (D : Sep z TI TO cs) (hcs : cs.map (·.2) = as) (hn : as ≠ []) (hlen : as.length ≤ 1000) :
    Turn P w K (.Name x tpos) (Itn K as) (z :: TI :: TO :: cs.map (·.1)) z (fun i h => ∃ f0 b ws, IsZipF h z TI TO f0 b ∧ FOk f0 ∧ IsTupN h TI (cs.map fun c => Value.ref c.1) ∧ IsTupN h TO ws ∧ ws.length = cs.length ∧ Its cs i 0 h) where
  mem := List.mem_cons_self ..
  obj := fun i h st c hc => by
    obtain ⟨f0, b, ws, hz, _, hTI, hTO, _, hi⟩ := st
    rcases List.mem_cons.mp hc with q | hc
    · rw [q]; exact ⟨_, hz, fun v q => nomatch q⟩
    rcases List.mem_cons.mp hc with q | hc
    · rw [q]; exact ⟨_, hTI, fun v q => nomatch q⟩
    rcases List.mem_cons.mp hc with q | hc
    · rw [q]; exact ⟨_, hTO, fun v q => nomatch q⟩
    obtain ⟨d, hd, e⟩ := List.mem_map.mp hc
    obtain ⟨k, hk⟩ := List.getElem?_of_mem hd
    obtain ⟨o, e1, _, d1⟩ := hi k d hk
    subst e
    exact ⟨o, e1, fun v q => by rw [d1] at q; cases q⟩
  keep := fun i h h' st k => by
    obtain ⟨f0, b, ws, hz, hf, hTI, hTO, hl, hi⟩ := st
    refine ⟨f0, b, ws, k z (List.mem_cons_self ..) _ hz, hf, k TI (by simp) _ hTI, k TO (by simp) _ hTO, hl, fun j d hj => ?_⟩
    exact (hi j d hj).at fun o q => k d.1 (List.mem_cons_of_mem _ (List.mem_cons_of_mem _ (List.mem_cons_of_mem _ (mem1 hj)))) o q
  item := by
    intro X hP hw hK hc i pins s σ H E I hf st hg
    subst hP hw hK
    obtain ⟨f0, b, ws, hz, hfo, hTI, hTO, hl, hi⟩ := st
    obtain ⟨vs, hvl, hvs⟩ := hg
    obtain ⟨us, rv, hul, hus⟩ := cols I as vs hvl hvs
    have hcl : cs.length = as.length := by rw [← hcs, List.length_map]
    have hne : cs ≠ [] := fun e => hn (by rw [← hcs, e]; rfl)
    have hzl : z < s.heap.objs.size := Heap.lt_size hz
    have hL : Lists cs i us s.heap := ⟨by rw [hul, hcl], fun k c u hk hu => hus k c.2 u (by rw [← hcs, List.getElem?_map, hk]; rfl) hu⟩
    refine pyNext_item D hne (by rw [hcl]; exact hlen) hfo hz hTI hTO hl hi hL fun h' f1 b1 ws' z' hf' TO' hl' hi' hT hsz hk => ?_
    refine ⟨_, rfl, ?_⟩
    show wpAny _ _ (pure ()) _ _ _
    refine wpAny_pure ?_
    have new : ObjOk X.prog X.w (upd H s.heap.objs.size (.tup vs)) h' s.heap.objs.size (.tup vs) :=
      ⟨by show vs.length ≤ sizeLine; rw [hvl]; exact Nat.le_trans hlen (by decide), us, rv, ⟨_, hT, rfl, _, rfl⟩⟩
    have I1 : Inv X pins σ (upd H s.heap.objs.size (.tup vs)) { s with heap := h' } :=
      I.turnedNew (t' := s.toks) (ch := z :: TI :: TO :: cs.map (·.1)) (fun c o hb q => hk c o (fun q' => hb (by simp [q'])) (fun q' => hb (by simp [q'])) (fun q' => hb (List.mem_cons_of_mem _ (List.mem_cons_of_mem _ (List.mem_cons_of_mem _ q')))) q) hf (Nat.le_refl _) new
    refine ⟨.ref s.heap.objs.size, _, I1, rfl, ⟨_, vs, rfl, I.hok.fresh (Nat.le_refl _), rfl, hvl, fun k a v h1 h2 l hq => ?_⟩, ⟨f1, b1, ws', z', hf', ?_, TO', hl', hi'⟩, fun c hcm => ?_⟩
    · obtain ⟨xs, hq2, hx⟩ := hvs k a v h1 h2
      rw [I.list_inj hq hq2]; exact hx
    · exact hk _ _ D.TIz D.TITO (fun q => by
        obtain ⟨d, hd, e⟩ := List.mem_map.mp q
        exact D.iTI d hd e) hTI
    · have hlt : c < s.heap.objs.size := by
        rcases List.mem_cons.mp hcm with q | q
        · rw [q]; exact hzl
        rcases List.mem_cons.mp q with q | q
        · rw [q]; exact Heap.lt_size hTI
        rcases List.mem_cons.mp q with q | q
        · rw [q]; exact Heap.lt_size hTO
        obtain ⟨d, hd, e⟩ := List.mem_map.mp q
        obtain ⟨k, hk⟩ := List.getElem?_of_mem hd
        obtain ⟨o, e1, _⟩ := hi k d hk
        rw [← e]; exact Heap.lt_size e1
      rw [upd_ne (Nat.ne_of_lt hlt)]
      exact (hf c hcm).1
  done := by
    intro X hP hw hK hc i pins s σ H E I hf st hg
    subst hP hw hK
    obtain ⟨f0, b, ws, hz, hfo, hTI, hTO, hl, hi⟩ := st
    obtain ⟨a0, xs, ha, hq, hend⟩ := hg
    obtain ⟨its, rv, p, _⟩ := I.list hq
    have l1 := rv.length
    have hcl : cs.length = as.length := by rw [← hcs, List.length_map]
    have hc0 : ∃ c0, cs[0]? = some c0 ∧ c0.2 = a0 := by
      rw [← hcs, List.getElem?_map] at ha
      cases e : cs[0]? with
      | none => rw [e] at ha; cases ha
      | some c0 => rw [e] at ha; cases ha; exact ⟨c0, rfl, rfl⟩
    obtain ⟨c0, hc1, hc2⟩ := hc0
    subst hc2
    exact pyNext_end (ws := ws) (I.ok.hd hc) D (by rw [hcl]; exact hlen) hfo hc1 p.isList (by simp; omega) hz hTI hi fun h' hk => ⟨rfl, I.turnedL (t' := s.toks) (ch := z :: TI :: TO :: cs.map (·.1)) (fun c o hb q =>
      hk c o (fun q' => hb (by simp [q'])) (fun q' => hb (by simp [q'])) (fun q' => hb (List.mem_cons_of_mem _ (List.mem_cons_of_mem _ (List.mem_cons_of_mem _ q')))) q) hf⟩
  self := fun A i s Q E st h => by
    obtain ⟨f0, b, ws, hz, _⟩ := st
    exact pyIter_zipF hz h
theorem sub_zipT {E : Value → Shared → Prop} {M : Model} {A : Around} {s : Shared} {pos : Pos} {T : String} {t : Sem Value} {Q : Value → Shared → Prop}
    (h : wpAny M A t (fun v s₁ => PySem.W.StarOf M A E v (fun vs s₂ => wpAny M A (call (.type T) vs []) Q E s₂) s₁) E s) :
    wpAny M A (callWith pos (.type T) [] [(true, (do let v ← t; standAt pos; pure v))] []) Q E s := by
  unfold callWith
  refine wpAny_bind (wpAny_holding (wpAny_mono (PySem.W.ks_lone (Q := fun a s₂ => wpAny M A (call (.type T) a.pos a.kw) Q E s₂) h) (fun a s₁ h₁ => wpAny_bind (wpAny_standAt ?_)) fun _ _ x => x))
  simp only [List.any_cons, List.any_nil, Bool.true_or, Bool.or_false]
  refine wpAny_bind (wpAny_pure ?_)
  exact wpAny_bind (wpAny_operating (wpAny_mono (by simpa using h₁) (fun r s₂ hr => wpAny_bind (wpAny_holding (wpAny_point (wpAny_pure hr)))) fun _ _ x => x))
def iZipS (K : PySem.W.Frag) (te : TE) : TI := fun σ H R => te σ H fun v H1 => ∃ (b : Addr) (as : List Addr), v = .ref b ∧ SqL K H1 b (as.map V.ref) ∧ as ≠ [] ∧ as.length ≤ 1000 ∧ (∀ a ∈ as, ∃ xs, SqL K H1 a xs) ∧ R (Itn K as) H1
theorem vals_refs : ∀ {as : List Addr} {us : List Value}, Vals (as.map V.ref) us → us = as.map Value.ref
  | [], _, .nil => rfl
  | a :: as, _, .cons r rr => by
    rw [vals_refs rr]
    cases r
    rfl
theorem pi_zipS {X : Cx} {e : Expr} {te : TE} {p sp pos tpos : Pos} {x : Str} (hg : Gl X "zip") (hm : X.mg "zip" = none) (he : PE X e te)
    (hs : starEach [.Starred e sp] X.env = [(true, eval e X.env)] := by rfl) :
    PI X (.Name x tpos) (.Call (.Name "zip" p) [.Starred e sp] [] pos) (iZipS X.K te) := by
  refine ⟨fun pins s σ H R I h => ?_⟩
  refine Call_ (ld_blt I hg hm PyProof.Rows.boot_zip ?_)
  rw [hs]
  refine sub_zipT (thn (he.run pins s σ H _ I h) fun v s1 ⟨y, H1, I1, r1, b, as, ey, hq, hn, hlen, hall, q⟩ => ?_)
  subst ey
  obtain rfl : v = Value.ref b := r1
  refine StX.star_any I1 (.inr hq) fun us s2 I2 rv => ?_
  obtain rfl := vals_refs rv
  have hls : ∀ a ∈ as, ∃ xs : Array Value, s2.heap.IsList a xs ∧ a < s2.heap.objs.size := fun a ha => by
    obtain ⟨xs, hx⟩ := hall a ha
    obtain ⟨its, _, pl, _⟩ := I2.list hx
    exact ⟨_, pl.isList, pl.lt⟩
  have hch : ∃ ls : List (Addr × Array Value), ls.map (·.1) = as ∧ ∀ p ∈ ls, s2.heap.IsList p.1 p.2 := by
    clear q rv hq hn hlen I1 hall
    induction as with
    | nil => exact ⟨[], rfl, fun p h => nomatch h⟩
    | cons a r ih =>
      obtain ⟨ls, e, hl⟩ := ih fun b hb => hls b (List.mem_cons_of_mem _ hb)
      obtain ⟨xs, hx, _⟩ := hls a (List.mem_cons_self ..)
      exact ⟨(a, xs) :: ls, by rw [List.map_cons, e], fun p hp => by
        rcases List.mem_cons.mp hp with q | q
        · rw [q]; exact hx
        · exact hl p q⟩
  obtain ⟨ls, els, hl⟩ := hch
  have elen : ls.length = as.length := by rw [← els, List.length_map]
  have e1 : as.map Value.ref = ls.map fun p => Value.ref p.1 := by rw [← els, List.map_map]; rfl
  rw [e1]
  refine call_zip_n (by intro e; rw [e] at els; exact hn els.symm) (by rw [elen]; exact hlen) hl fun h' hz hTI hTO hi hsz hk => ?_
  rw [elen] at hz hTI hTO hsz ⊢
  refine pyIter_zipF hz ?_
  have I3 : Inv X pins σ H1 { s2 with heap := h' } := I2.kept (t' := s2.toks) hk
  have hlt : ∀ a ∈ as, a < s2.heap.objs.size := fun a ha => let ⟨_, _, h⟩ := hls a ha; h
  have hsnd : (csOf s2.heap.objs.size as).map (·.2) = as := by
    apply List.ext_getElem?
    intro k
    rw [List.getElem?_map, cs_get]
    cases as[k]? <;> rfl
  refine ⟨_, _, _, _, H1, rfl, I3, turn_zipN (sep_of hlt rfl rfl rfl) hsnd hn hlen, ⟨.none, false, _, hz, .inl rfl, ?_, hTO, by simp [cs_len], fun k c hc => ?_⟩, fun c hcm => ?_, q⟩
  · have e2 : (csOf s2.heap.objs.size as).map (fun c => Value.ref c.1) = (List.range as.length).map fun k => Value.ref (s2.heap.objs.size + k) := by
      have := congrArg (List.map Value.ref) (cs_fst s2.heap.objs.size as)
      simpa [List.map_map, Function.comp_def] using this
    rw [e2]; exact hTI
  · rw [cs_get] at hc
    cases e : as[k]? with
    | none => rw [e] at hc; cases hc
    | some a =>
      rw [e] at hc; cases hc
      rw [← els, List.getElem?_map] at e
      cases e2 : ls[k]? with
      | none => rw [e2] at e; cases e
      | some p => rw [e2] at e; cases e; rw [if_neg (Nat.not_lt_zero _)]; exact hi k p e2
  · have hle : s2.heap.objs.size ≤ c := by
      rcases List.mem_cons.mp hcm with q | q
      · rw [q, Nat.add_assoc]; exact Nat.le_add_right _ _
      rcases List.mem_cons.mp q with q | q
      · rw [q]; exact Nat.le_add_right _ _
      rcases List.mem_cons.mp q with q | q
      · rw [q, Nat.add_assoc]; exact Nat.le_add_right _ _
      obtain ⟨d, hd, e⟩ := List.mem_map.mp q
      rw [← e]; exact (cs_mem hd).1
    exact I2.fpOk hle (I2.hok.fresh hle)
end ZN
namespace DL
open PySem PySem.Spec PyProof.Rows L2 ZN
variable [Tabs]
/-! zip(*rows), rows of one length: the columns as tuples -/
def rowsL : List D → Option (List (List D))
  | [] => some []
  | .list r :: ds => (rowsL ds).map (r :: ·)
  | _ :: _ => none
def colsL (rs : List (List D)) (m : Nat) : List D := (List.range m).map fun i => .tuple (rs.map fun r => r.getD i .none)
def zipSL : List (List D) → R (List D)
  | r0 :: rest => if rest.all (fun r => r.length == r0.length) && decide (rest.length < 1000) then .ok (colsL (r0 :: rest) r0.length) else .no
  | [] => .no
def zipSD : D → R (List D)
  | .list ds => match rowsL ds with
    | some rs => zipSL rs
    | none => .no
  | _ => .no
def zipSR (f : En → R D) : En → R (List D) := fun env => (f env).bind zipSD
section
variable {K : PySem.W.Frag} {F H : Hp}
theorem rows_dp : ∀ {ds : List D} {vs : List V} {rs : List (List D)}, DpAll K F vs ds → rowsL ds = some rs → ∃ as : List Addr, vs = as.map V.ref ∧ as.length = rs.length ∧
    ∀ (k : Nat) (a : Addr), as[k]? = some a → ∃ r xs, rs[k]? = some r ∧ SqL K F a xs ∧ DpAll K F xs r
  | [], vs, rs, h, e => by
    cases h; cases e
    exact ⟨[], rfl, rfl, fun k a z => by cases k <;> cases z⟩
  | d :: ds, vs, rs, h, e => by
    cases h with
    | cons h1 h2 =>
      cases h1 with
      | lst q1 q2 =>
        unfold rowsL at e
        cases er : rowsL ds with
        | none => rw [er] at e; cases e
        | some rr =>
          rw [er] at e; cases e
          obtain ⟨as, e1, e2, e3⟩ := rows_dp h2 er
          subst e1
          exact ⟨_ :: as, rfl, by simp [e2], fun k a z => by
            cases k with
            | zero => cases z; exact ⟨_, _, rfl, q1, q2⟩
            | succ k => exact e3 k a z⟩
      | _ => unfold rowsL at e; cases e
theorem itn_ok {G : Hp} {as : List Addr} {rs : List (List D)} {m : Nat} (hl : as.length = rs.length) (h0 : rs ≠ []) (hr : ∀ r ∈ rs, r.length = m)
    (h : ∀ (k : Nat) (a : Addr), as[k]? = some a → ∃ r xs, rs[k]? = some r ∧ SqL K G a xs ∧ DpAll K F xs r) : ItOk K G (Itn K as) F (colsL rs m) := by
  have hlen : (colsL rs m).length = m := by simp [colsL]
  refine ⟨fun i H s hi => ?_, fun i H s hi => ?_, fun i H Fc x H' s sf sh hi y => ?_⟩
  · rw [hlen] at hi
    have : ∀ (as : List Addr) (rs : List (List D)), as.length = rs.length → (∀ r ∈ rs, r.length = m) → (∀ (k : Nat) (a : Addr), as[k]? = some a → ∃ r xs, rs[k]? = some r ∧ SqL K G a xs ∧ DpAll K F xs r) →
        ∃ vs : List V, vs.length = as.length ∧ ∀ (k : Nat) (a : Addr) (v : V), as[k]? = some a → vs[k]? = some v → ∃ xs, SqL K H a xs ∧ xs[i]? = some v := by
      intro as
      induction as with
      | nil => exact fun rs _ _ _ => ⟨[], rfl, fun k a v z => by cases k <;> cases z⟩
      | cons a as ih =>
        intro rs hl hr h
        cases rs with
        | nil => cases hl
        | cons r rs =>
          obtain ⟨vs, e1, e2⟩ := ih rs (by simpa using hl) (fun r hr2 => hr r (List.mem_cons_of_mem _ hr2)) fun k b z => h (k + 1) b z
          obtain ⟨r', xs, e3, e4, e5⟩ := h 0 a rfl
          cases e3
          have hv : i < xs.length := by rw [e5.len, hr r (List.mem_cons_self ..)]; exact hi
          refine ⟨xs[i] :: vs, by simp [e1], fun k b v z1 z2 => ?_⟩
          cases k with
          | zero => cases z1; cases z2; exact ⟨xs, s.seq e4, List.getElem?_eq_getElem hv⟩
          | succ k => exact e2 k b v z1 z2
    exact this as rs hl hr h
  · rw [hlen] at hi
    cases rs with
    | nil => exact absurd rfl h0
    | cons r rs =>
      cases as with
      | nil => cases hl
      | cons a as =>
        obtain ⟨r', xs, e3, e4, e5⟩ := h 0 a rfl
        cases e3
        exact ⟨a, xs, rfl, s.seq e4, by rw [e5.len, hr r (List.mem_cons_self ..)]; exact hi⟩
  · rw [hlen] at hi
    obtain ⟨T, vs, rfl, n, rfl, y1, y2⟩ := y
    have hall : ∀ (as : List Addr) (vs : List V) (rs : List (List D)), as.length = rs.length → vs.length = as.length → (∀ r ∈ rs, r.length = m) → (∀ (k : Nat) (a : Addr), as[k]? = some a → ∃ r xs, rs[k]? = some r ∧ SqL K G a xs ∧ DpAll K F xs r) →
        (∀ (k : Nat) (a : Addr) (v : V), as[k]? = some a → vs[k]? = some v → ∀ xs, SqL K H a xs → xs[i]? = some v) → DpAll K Fc vs (rs.map fun r => r.getD i .none) := by
      intro as
      induction as with
      | nil =>
        intro vs rs h1 h2 _ _ _
        cases rs with
        | nil => cases vs with
          | nil => exact .nil
          | cons _ _ => cases h2
        | cons _ _ => cases h1
      | cons a as ih =>
        intro vs rs h1 h2 hr h y2
        cases rs with
        | nil => cases h1
        | cons r rs =>
          cases vs with
          | nil => cases h2
          | cons v vs =>
            obtain ⟨r', xs, e3, e4, e5⟩ := h 0 a rfl
            cases e3
            have hv := y2 0 a v rfl rfl xs (s.seq e4)
            obtain ⟨d, e6, e7⟩ := e5.get hv
            have ed : r.getD i .none = d := by simp [e6]
            rw [List.map_cons, ed]
            exact .cons (Dp.mono sf _ _ e7) (ih vs rs (by simpa using h1) (by simpa using h2) (fun r hr2 => hr r (List.mem_cons_of_mem _ hr2)) (fun k b z => h (k + 1) b z) fun k b v z1 z2 => y2 (k + 1) b v z1 z2)
    have hd := hall as vs rs hl y1 hr h y2
    exact ⟨_, _, by simp [colsL, hi], After.new sh n, .tup (SqT.of upd_same) (DpAll.mono (After.new sh n).ff _ _ hd)⟩
end
section
variable {X : Cx} {W : WX} {pos p sp tpos : Pos} {a : Expr} {fa : En → R D} {x : Str}
theorem di_zipS (hg : Gl X "zip") (hm : X.mg "zip" = none) (ha : DE X W .f a fa) (hs : starEach [.Starred a sp] X.env = [(true, eval a X.env)] := by rfl) :
    DI X (.Name x tpos) W true (.Call (.Name "zip" p) [.Starred a sp] [] pos) (zipSR fa) :=
  (pi_zipS hg hm ha hs).wk fun σ H Q ⟨B, F, env, r, p⟩ => tD.bindI (m1 := .f) r p fun v H1 F1 d a1 r1 q1 p1 => by
    unfold zipSD at p1
    cases d with
    | list ds =>
      dsimp only at p1
      cases e : rowsL ds with
      | none => rw [e] at p1; exact p1.elim
      | some rs =>
        rw [e] at p1
        dsimp only at p1
        cases rs with
        | nil => exact p1.elim
        | cons r0 rest =>
          unfold zipSL at p1
          dsimp only at p1
          by_cases hc : (rest.all (fun r => r.length == r0.length) && decide (rest.length < 1000)) = true
          · rw [if_pos hc] at p1
            obtain ⟨c1, c2⟩ := Bool.and_eq_true_iff.mp hc
            have c3 : ∀ r ∈ r0 :: rest, r.length = r0.length := fun r hr => by
              rcases List.mem_cons.mp hr with z | z
              · rw [z]
              · exact by simpa using List.all_eq_true.mp c1 r z
            have c4 : rest.length < 1000 := of_decide_eq_true c2
            cases q1 with
            | lst h1 h2 =>
              obtain ⟨as, e1, e2, e3⟩ := rows_dp h2 e
              subst e1
              refine ⟨_, as, rfl, r1.fh.seq h1, ?_, ?_, ?_, p1 _ _ _ (After.refl r1.fh) (itn_ok e2 (by simp) c3 e3)⟩
              · intro z; rw [z] at e2; cases e2
              · rw [e2, List.length_cons]; omega
              · intro b hb
                obtain ⟨k, hk⟩ := List.getElem?_of_mem hb
                obtain ⟨r, xs, _, h, _⟩ := e3 k b hk
                exact ⟨xs, r1.fh.seq h⟩
          · rw [if_neg hc] at p1; exact p1.elim
    | _ => exact p1.elim
end
@[simp] theorem e_zipSR {fa : En → R D} {env : En} : zipSR fa env = (fa env).bind zipSD := rfl
theorem rowsL_map {α : Type} (f : α → List D) (xs : List α) : rowsL (xs.map fun x => .list (f x)) = some (xs.map f) := by
  induction xs with
  | nil => rfl
  | cons a r ih => rw [List.map_cons, rowsL, ih]; rfl
end DL
namespace DL
open PySem PySem.Spec PyProof.Rows L2
variable [Tabs]
/-! f(..).append(e): the list is new, nobody sees it afterwards -/
def apE (fo f2 : En → R S) : En → SR := fun env => (fo env).st env fun s => match s with
  | .ow ss => (f2 env).st env fun _ => if ss.length < 1000000 then .nx env else .no
  | _ => .no
section
variable {X : Cx} {W : WX} {pos : Pos} {x e : Expr} {fo f2 : En → R S}
theorem ds_appendE {ap cp : Pos} (hx : DO X W x fo) (he : DO X W e f2) (hss : starEach [e] X.env = (false, eval e X.env) :: starEach [] X.env := by rfl)
    (hbase : attributeBase x "append" X.env (eval x X.env) = eval x X.env := by rfl)
    (hfew : ((backTo cp (starEach [e] X.env)).all (fun x => !x.1) && (backToKw cp (keywordEach [] X.env)).all (fun x => x.1.isSome)
      && decide ([e].length + ([] : List Keyword).length + (if ([] : List Keyword).isEmpty then 0 else 1) < 30)) = true := by rfl)
    (hline : (ap.endLine == cp.line) = true := by rfl) (hplain : (backTo cp (starEach [] X.env)).any (·.1) = false := by rfl)
    (hs : swapsWith (.Call (.Attribute x "append" ap) [e] [] cp) none pos.line X.env = pure false := by rfl) :
    DS X W (.Expr (.Call (.Attribute x "append" ap) [e] [] cp) pos) (apE fo f2) :=
  (ps_expr (pe_bm F.plainAttrs_list F.slot_list_append F.type_list_append mt_append hx (pa_cons he pa_nil hss) hbase hfew hline hss hplain) hs).wk fun D σ H ⟨B, F, env, r, p⟩ => by
    unfold apE at p
    refine tO.st r p fun v H1 F1 s as a r1 o n fr p1 => ?_
    cases s with
    | fr d => exact p1.elim
    | tu ss => exact p1.elim
    | ow ss =>
      cases o with
      | ow h1 h2 h3 =>
        rename_i a0 vs bs
        have ha0 : H a0 = none := fr a0 (List.mem_cons_self ..)
        refine ⟨tyV_lst h2, ?_⟩
        refine tO.st r1 p1 fun u H2 F2 t cs b r2 o2 n2 fr2 p2 => ?_
        obtain ⟨k1, k2⟩ := b.keepO ⟨h1, _, h2, rfl⟩
        have hl := h3.len
        split at p2
        · rename_i hlt
          refine ⟨a0, vs, u, rfl, rfl, k2.trans h2, by have := million; omega, ?_⟩
          have nB : B a0 = none := r.bh.free ha0
          have sF : Same F2 (upd H2 a0 (.lst (vs ++ [u]))) := r2.fh.updR _ _ k1
          have sB := r2.bh.updR a0 (.lst (vs ++ [u])) nB
          obtain ⟨ds, q1, q2, q3⟩ := r.sl
          have q4 := (q1.mono a.ff (F' := F1) (H' := H1) fun c hc => a.keepO (q1.at c hc))
          have q5 := (q4.mono b.ff (F' := F2) (H' := H2) fun c hc => b.keepO (q4.at c hc))
          have q6 := q5.mono (Same.refl F2) (H' := upd H2 a0 (.lst (vs ++ [u]))) fun c hc => by
            refine ⟨(q5.at c hc).1, upd_ne fun z => ?_⟩
            obtain ⟨_, o, e, _⟩ := q1.at c hc
            rw [z, ha0] at e; cases e
          exact p2 σ _ F2 AfterS.refl ⟨sB, sF, ds, q6, q2, q3⟩
        · exact p2.elim
end
@[simp] theorem e_apE {fo f2 : En → R S} {env : En} : apE fo f2 env = (fo env).st env fun s => match s with
  | .ow ss => (f2 env).st env fun _ => if ss.length < 1000000 then .nx env else .no
  | _ => .no := rfl
end DL
namespace DL
open PySem PySem.Spec PyProof.Rows L2
/-! a slot's own list is lent while an expression is worked out: what comes out holds no list -/
mutual
def noL : D → Bool
  | .none | .bool _ | .int _ | .str _ => true
  | .tuple ds => noLs ds
  | _ => false
def noLs : List D → Bool
  | [] => true
  | d :: ds => noL d && noLs ds
end
theorem SqT.less {K : PySem.W.Frag} {F F0 H : Hp} {a : Addr} {xs : List V} (f : Same F H) (hf : ∀ a, F0 a = F a ∨ ∃ vs, H a = some (.lst vs)) (h : SqT K F a xs) : SqT K F0 a xs := by
  rcases h with (h | ⟨o, h⟩) | h
  · refine .inl (.inl ?_)
    rcases hf a with e | ⟨vs, e⟩
    · rw [e]; exact h
    · have := f a _ h; rw [e] at this; cases this
  · refine .inl (.inr ⟨o, ?_⟩)
    rcases hf a with e | ⟨vs, e⟩
    · rw [e]; exact h
    · have := f a _ h; rw [e] at this; cases this
  · exact .inr h
mutual
theorem Dp.less {K : PySem.W.Frag} {F F0 H : Hp} (f : Same F H) (hf : ∀ a, F0 a = F a ∨ ∃ vs, H a = some (.lst vs)) : ∀ (d : D) (v : V), noL d = true → Dp K F v d → Dp K F0 v d
  | .none, _, _, .non => .non
  | .bool _, _, _, .bl b => .bl b
  | .int _, _, _, .int i => .int i
  | .str _, _, _, .str x => .str x
  | .tuple ds, _, n, .tup h1 h2 => .tup (SqT.less f hf h1) (DpAll.less f hf ds _ n h2)
  | .list _, _, n, _ => by cases n
  | .dict _, _, n, _ => by cases n
theorem DpAll.less {K : PySem.W.Frag} {F F0 H : Hp} (f : Same F H) (hf : ∀ a, F0 a = F a ∨ ∃ vs, H a = some (.lst vs)) : ∀ (ds : List D) (vs : List V), noLs ds = true → DpAll K F vs ds → DpAll K F0 vs ds
  | [], _, _, .nil => .nil
  | d :: ds, _, n, .cons h1 h2 => by
    have n : (noL d && noLs ds) = true := n
    rw [Bool.and_eq_true] at n
    exact .cons (Dp.less f hf d _ n.1 h1) (DpAll.less f hf ds _ n.2 h2)
end
theorem OwAll.nth' {K : PySem.W.Frag} {F H : Hp} : ∀ {vs : List V} {ss : List S} {as : List Addr} {n : Nat} {s : S}, OwAll K F H vs ss as → ss[n]? = some s → ∃ v bs, vs[n]? = some v ∧ Ow K F H v s bs ∧ ∀ b ∈ bs, b ∈ as
  | _, _, _, _, _, .nil, e => by simp at e
  | _, _, _, 0, _, .cons a t, e => by
    simp at e; subst e
    exact ⟨_, _, rfl, a, fun b hb => List.mem_append_left _ hb⟩
  | _, _, _, n + 1, _, .cons a t, e => by
    obtain ⟨v, bs, h1, h2, h3⟩ := OwAll.nth' (n := n) t (by simpa using e)
    exact ⟨v, bs, by simpa using h1, h2, fun b hb => List.mem_append_right _ (h3 b hb)⟩
theorem Ow.to' {K : PySem.W.Frag} {F H : Hp} : ∀ {p : List Nat} {s t : S} {v : V} {as : List Addr}, Ow K F H v s as → getS s p = some t → ∃ w bs, To H v p w ∧ Ow K F H w t bs ∧ ∀ b ∈ bs, b ∈ as
  | [], s, t, v, as, h, g => by
    simp [getS] at g
    subst g
    exact ⟨v, as, rfl, h, fun b hb => hb⟩
  | n :: p, s, t, v, as, h, g => by
    cases h with
    | fr _ => simp [getS] at g
    | @ow a vs ss cs x y z =>
      unfold getS at g
      cases e : ss[n]? with
      | none => rw [e] at g; cases g
      | some s =>
        rw [e] at g
        obtain ⟨v1, bs1, k1, k2, k3⟩ := z.nth' e
        obtain ⟨w, bs, q1, q2, q3⟩ := Ow.to' k2 g
        exact ⟨w, bs, ⟨a, vs, v1, rfl, .inl y, k1, q1⟩, q2, fun b hb => List.mem_cons_of_mem _ (k3 b (q3 b hb))⟩
    | @tu a vs ss cs x y z =>
      unfold getS at g
      cases e : ss[n]? with
      | none => rw [e] at g; cases g
      | some s =>
        rw [e] at g
        obtain ⟨v1, bs1, k1, k2, k3⟩ := z.nth' e
        obtain ⟨w, bs, q1, q2, q3⟩ := Ow.to' k2 g
        exact ⟨w, bs, ⟨a, vs, v1, rfl, .inr y, k1, q1⟩, q2, fun b hb => List.mem_cons_of_mem _ (k3 b (q3 b hb))⟩
mutual
/-- all cells of an own value are lists (no own tuples) -/
def noT : S → Bool
  | .fr _ => true
  | .ow ss => noTs ss
  | .tu _ => false
def noTs : List S → Bool
  | [] => true
  | s :: ss => noT s && noTs ss
end
mutual
theorem Ow.lists {K : PySem.W.Frag} {F H : Hp} : ∀ (s : S) (v : V) (as : List Addr), Ow K F H v s as → noT s = true → ∀ a ∈ as, ∃ vs, H a = some (.lst vs)
  | .fr _, _, _, .fr _, _ => fun a h => nomatch h
  | .ow ss, _, _, .ow h1 h2 h3, n => fun a h => by
    rcases List.mem_cons.mp h with e | e
    · rw [e]; exact ⟨_, h2⟩
    · exact OwAll.lists ss _ _ h3 n a e
  | .tu _, _, _, _, n => by cases n
theorem OwAll.lists {K : PySem.W.Frag} {F H : Hp} : ∀ (ss : List S) (vs : List V) (as : List Addr), OwAll K F H vs ss as → noTs ss = true → ∀ a ∈ as, ∃ vs, H a = some (.lst vs)
  | [], _, _, .nil, _ => fun a h => nomatch h
  | s :: ss, _, _, .cons h1 h2, n => fun a h => by
    have n : (noT s && noTs ss) = true := n
    rw [Bool.and_eq_true] at n
    rcases List.mem_append.mp h with e | e
    · exact Ow.lists s _ _ h1 n.1 a e
    · exact OwAll.lists ss _ _ h2 n.2 a e
end
/-- behind an expression that was worked out with the cells bs frozen -/
theorem After.back {F G H F' H' : Hp} {bs : List Addr} (hF : ∀ a ∈ bs, F a = none) (hG : ∀ a, G a = if a ∈ bs then H a else F a) (x : After G H F' H') : After F H (fun a => if a ∈ bs then none else F' a) H' where
  ff := ⟨fun a o e hn => by
    have hb : a ∉ bs := fun z => by rw [hF a z] at e; cases e
    show (if a ∈ bs then none else F' a) = some o
    rw [if_neg hb]
    refine x.ff.k a o ?_ hn
    rw [hG, if_neg hb]; exact e, fun a ps e => by
    have hb : a ∉ bs := fun z => by rw [hF a z] at e; cases e
    obtain ⟨m, h1, h2⟩ := x.ff.t a ps (by rw [hG, if_neg hb]; exact e)
    exact ⟨m, (if_neg hb).trans h1, h2⟩⟩
  fh := ⟨fun a o e hn => by
    have e : (if a ∈ bs then none else F' a) = some o := e
    split at e
    · cases e
    · exact x.fh.k a o e hn, fun a ps e => by
    have e : (if a ∈ bs then none else F' a) = some (.tbl ps) := e
    split at e
    · cases e
    · exact x.fh.t a ps e⟩
  hh := x.hh
  nw := fun a o e n => by
    have e : (if a ∈ bs then none else F' a) = some o := e
    split at e
    · cases e
    · rename_i hb
      exact x.nw a o e (by rw [hG, if_neg hb]; exact n)
/-- the result of such an expression -/
theorem lend_back {K : PySem.W.Frag} {F G H F' H' : Hp} {bs : List Addr} {v : V} {d : D} (hF : ∀ a ∈ bs, F a = none) (hl : ∀ a ∈ bs, ∃ vs, H a = some (.lst vs)) (hG : ∀ a, G a = if a ∈ bs then H a else F a) (x : After G H F' H') (hd : Dp K F' v d) (hn : noL d = true) :
    ∃ F0, After F H F0 H' ∧ Dp K F0 v d := by
  refine ⟨_, After.back hF hG x, Dp.less x.fh (fun a => ?_) d v hn hd⟩
  by_cases hb : a ∈ bs
  · right
    obtain ⟨vs, e⟩ := hl a hb
    exact ⟨vs, x.hh a _ e⟩
  · left; show (if a ∈ bs then none else F' a) = F' a
    rw [if_neg hb]
end DL
namespace DL
open PySem PySem.Spec PyProof.Rows L2
variable [Tabs]
/-- the slot i is lent to an expression -/
def lnR (i : Nat) (f : En → R D) : En → R D := fun env => match env[i]? with
  | some (some (.v s)) => if noT s = true then (f (env.set i (some (.v (.fr s.toD))))).bind fun d => if noL d = true then .ok d else .no else .no
  | _ => .no
theorem Rel.lend {K : PySem.W.Frag} {B F H : Hp} {env : En} {σ : L2.St} {i : Nat} {s : S} (r : Rel K B F H env σ) (e : env[i]? = some (some (.v s))) (hs : noT s = true) :
    ∃ (G : Hp) (bs : List Addr), Rel K B G H (env.set i (some (.v (.fr s.toD)))) σ ∧ (∀ a ∈ bs, F a = none) ∧ (∀ a ∈ bs, ∃ vs, H a = some (.lst vs)) ∧ ∀ a, G a = if a ∈ bs then H a else F a := by
  obtain ⟨as, h1, h2, h3⟩ := r.sl
  obtain ⟨v, bs, q1, q2, q3⟩ := h1.get e
  obtain ⟨cs, ds, w1, w2, w3, w4, w5, w6⟩ := h1.share h2 e q1 q2
  cases w2 with
  | v o =>
    refine ⟨fun a => if a ∈ ds then H a else F a, ds, ?_, fun a ha => (o.at _ _ _ a ha).1, o.lists _ _ _ hs, fun a => rfl⟩
    have hF : ∀ a o, F a = some o → a ∉ ds := fun a u e z => by
      have := (o.at _ _ _ a z).1
      rw [e] at this; cases this
    have gF : Same F (fun a => if a ∈ ds then H a else F a) := .mixF fun a z => (o.at _ _ _ a z).1
    have gH : Same (fun a => if a ∈ ds then H a else F a) H := .mixH r.fh
    refine ⟨r.bh, gH, cs, OwEn.put (Ow.dp gF _ _ _ o fun a ha => if_pos ha) (w1.mono gF fun a ha => ⟨?_, rfl⟩) q1, w3, fun a ha => h3 a (w4 a ha)⟩
    show (if a ∈ ds then H a else F a) = none
    rw [if_neg fun z => w6 a z ha]
    exact (w1.at a ha).1
section
variable {X : Cx} {W : WX} {m : Md} {e : Expr} {f : En → R D}
theorem de_lend (i : Nat) (h : DE X W .f e f) : DE X W .f e (lnR i f) := h.wk fun σ H Q ⟨B, F, env, r, p⟩ => by
  unfold lnR at p
  split at p
  · rename_i s ee
    split at p
    · rename_i hs
      obtain ⟨G, bs, r2, b1, b2, b3⟩ := r.lend ee hs
      refine ⟨B, G, _, r2, ?_⟩
      cases ef : f (env.set i (some (.v (.fr s.toD)))) with
      | no => rw [ef] at p; exact p
      | er c => rw [ef] at p; exact fun H' F' a => p H' _ (After.back b1 b3 a)
      | ok d =>
        rw [ef] at p
        have p : PoE X.K (ecOf X.mg) W .f F H σ Q (if noL d = true then .ok d else .no) := p
        split at p
        · rename_i hn
          intro v H' F' a hv
          obtain ⟨F0, a0, hd⟩ := lend_back b1 b2 b3 a hv hn
          exact p v H' F0 a0 hd
        · exact p.elim
    · exact p.elim
  · exact p.elim
/-- y = R; y[j] = e, e may read y -/
def alR (i r : Nat) (fp : En → R (List Nat)) (fe : En → R D) (fi : En → R D) : En → SR := fun env => (fp env).st env fun p => match env[i]? with
  | some (some (.v s)) => if r = i ∨ env.length ≤ r then .no else match getS s p with
    | some (.ow ts) => if noTs ts = true then (fe ((env.set i none).set r (some (.v (.fr (S.ow ts).toD))))).st (env.set r none) fun d => if noL d = true then putS i (env.set r none) s p ts (.fr d) fi else .no else .no
    | _ => .no
  | _ => .no
theorem OwEn.hide {K : PySem.W.Frag} {F H : Hp} {v : V} {s : Sl} {bs : List Addr} {σ : L2.St} {env : En} {as : List Addr} {i : Nat} (h1 : OwEn K F H σ env as) (h2 : as.Nodup) (e : env[i]? = some (some s)) (q : σ[i]? = some (some v)) (o : OwS K F H v s bs) :
    ∃ cs ds, OwEn K F H σ (env.set i none) cs ∧ OwS K F H v s ds ∧ cs.Nodup ∧ (∀ b ∈ cs, b ∈ as) ∧ (∀ b ∈ ds, b ∈ as) ∧ ∀ b ∈ ds, b ∉ cs := h1.share h2 e q o
variable {sts : List Stmt} {U : En → SR} {ei : Expr} {fe fi : En → R D} {fp : En → R (List Nat)} {pos pos' : Pos}
theorem dss_aliasR {x : Expr} {y : Str} {py py2 sp : Pos} {i : Nat} (r : Nat) (nd : X.N.Nodup) (hx : DRef X W x i fp) (he : DE X W .f e fe) (hi : DE X W .h ei fi) (hr : X.N[r]? = some y := by rfl) (hy : Loc X.env.scope y := by first | exact Or.inl rfl | exact Or.inr rfl)
    (hv : Vis X.env.scope y := by first | exact Or.inl rfl | exact Or.inr (Or.inl rfl) | exact Or.inr (Or.inr rfl)) (hd : (y == ("__debug__" : Str)) = false := by decide) (hcd : (y == ("__classdict__" : Str)) = false := by decide)
    (hs0 : swapsWith x (some (.Name y py)) pos.line X.env = pure false := by rfl) (hf : X.fn y = true ∨ X.env.scope.names.lookup y = some .local := by first | exact Or.inl rfl | exact Or.inr rfl)
    (ha : ∀ v, assign (.Subscript (.Name y py2) ei sp) X.env v = (do
      let ov ← holding [v] (eval (.Name y py2) X.env)
      let iv ← holding [v, ov] (eval ei X.env)
      standAt sp
      holding [v, ov, iv] (setItem ov iv v)
      release [v, ov, iv] []) := by intro _; rfl)
    (hs : swapsWithSole [.Subscript (.Name y py2) ei sp] e pos'.line X.env = pure false := by rfl) (hw : swappedStores [.Subscript (.Name y py2) ei sp] e X.env = pure none := by rfl)
    (h1 : (assignEach [.Subscript (.Name y py2) ei sp] X.env).map (·.2) = [assign (.Subscript (.Name y py2) ei sp) X.env] := by rfl)
    (h2 : DSs X W sts U) :
    DSs X W (.Assign [.Name y py] x pos :: .Assign [.Subscript (.Name y py2) ei sp] e pos' :: sts) (sqS (alR i r fp fe fi) U) :=
  (pss_cons (ps_set nd hr hy hx.1 hs0 hf) (pss_cons (ps_asg he (pg_sub (pe_var hr hv hd hcd) hi set_list ha) hs hw h1) h2)).wk fun D σ H ⟨B, F, env, rl, p⟩ => by
    replace p := PoS.part p
    refine ⟨B, F, env, rl, ?_⟩
    unfold alR at p
    cases e1 : fp env with
    | no => rw [e1] at p; exact p.elim
    | er c => rw [e1] at p; exact fun H1 F1 a1 => p σ H1 F1 (a1.toS rl.bh) (rl.after a1)
    | ok q =>
      rw [e1] at p
      obtain ⟨s0, t0, ee, eg⟩ := hx.2 env q e1
      rw [R.st_ok, ee] at p
      dsimp only at p
      intro v w H1 F1 a1 hv1 hto
      by_cases hri : r = i ∨ env.length ≤ r
      · rw [if_pos hri] at p; exact p.elim
      rw [if_neg hri] at p
      have hne : r ≠ i := fun z => hri (.inl z)
      rw [eg] at p
      cases t0 with
      | fr d => exact p.elim
      | tu ts => exact p.elim
      | ow ts =>
        dsimp only at p
        by_cases hnt : noTs ts = true
        · rw [if_pos hnt] at p
          have ep : getP s0 q = some ts := getS_getP eg
          have rF := rl.after a1
          have r1 : Rel X.K B F1 H1 (env.set r none) (σ.set r (some w)) := rF.drop
          have hlen : r < σ.length := by
            obtain ⟨as, h1, _⟩ := rl.sl
            rw [h1.len]
            exact Nat.lt_of_not_le fun z => hri (.inr z)
          have hw1 : (σ.set r (some w))[r]? = some (some w) := by rw [List.getElem?_set_self hlen]
          have hv2 : (σ.set r (some w))[i]? = some (some v) := by rw [List.getElem?_set_ne hne]; exact hv1
          have ee2 : (env.set r none)[i]? = some (some (.v s0)) := by rw [List.getElem?_set_ne hne]; exact ee
          -- the value's own cells
          obtain ⟨as, h1, h2, h3⟩ := r1.sl
          obtain ⟨v', bs0, q1, q2, q3⟩ := h1.get ee2
          rw [hv2] at q1; cases q1
          obtain ⟨cs, ds, w1, w2, w3, w4, w5, w6⟩ := h1.share h2 ee2 hv2 q2
          cases w2 with
          | v o =>
            obtain ⟨w', bs, t1, t2, t3⟩ := Ow.to' o eg
            have ew := To.fn t1 hto
            subst ew
            have bF : ∀ a ∈ bs, F1 a = none := fun a ha => (t2.at _ _ _ a ha).1
            have bL : ∀ a ∈ bs, ∃ vs, H1 a = some (.lst vs) := t2.lists _ _ _ hnt
            have gF : Same F1 (fun a => if a ∈ bs then H1 a else F1 a) := .mixF bF
            have gH : Same (fun a => if a ∈ bs then H1 a else F1 a) H1 := .mixH r1.fh
            have rG : Rel X.K B (fun a => if a ∈ bs then H1 a else F1 a) H1 ((env.set i none).set r (some (.v (.fr (S.ow ts).toD)))) (σ.set r (some w')) := by
              have comm : (env.set r none).set i none = (env.set i none).set r none := List.set_comm _ _ hne
              have base : OwEn X.K (fun a => if a ∈ bs then H1 a else F1 a) H1 (σ.set r (some w')) ((env.set i none).set r none) cs := by
                rw [← comm]
                refine w1.mono gF fun a ha => ⟨?_, rfl⟩
                show (if a ∈ bs then H1 a else F1 a) = none
                rw [if_neg fun z => w6 a (t3 a z) ha]
                exact (w1.at a ha).1
              have hdp : Dp X.K (fun a => if a ∈ bs then H1 a else F1 a) w' (S.ow ts).toD := Ow.dp gF _ _ _ t2 fun a ha => if_pos ha
              have := OwEn.put (i := r) (env := env.set i none) hdp base hw1
              exact ⟨r1.bh, gH, cs, this, w3, fun a ha => h3 a (w4 a ha)⟩
            have p1 := p.after (a1.toS rl.bh)
            refine ⟨B, _, _, rG, ?_⟩
            cases ef : fe ((env.set i none).set r (some (.v (.fr (S.ow ts).toD)))) with
            | no => rw [ef] at p1; exact p1.elim
            | er c => rw [ef] at p1; exact fun H' F' a => p1 _ H' _ ((After.back bF (fun a => rfl) a).toS r1.bh) (r1.after (After.back bF (fun a => rfl) a))
            | ok d =>
              rw [ef, R.st_ok] at p1
              by_cases hn : noL d = true
              · rw [if_pos hn] at p1
                intro u H2 F2 a2 hu
                obtain ⟨F0, a0, hd0⟩ := lend_back bF bL (fun a => rfl) a2 hu hn
                refine ⟨w', hw1, ?_⟩
                exact put_run r1 a0 ee2 ep hv2 (.fr hd0) List.nodup_nil (fun b hb => nomatch hb) (To.same a0.hh hto) (p1.after (a0.toS r1.bh))
              · rw [if_neg hn] at p1; exact p1.elim
        · rw [if_neg hnt] at p; exact p.elim
end
end DL
namespace DL
open PySem PySem.Spec PyProof.Rows L2
variable [Tabs]
/-- a name that may be called, of which nothing is said -/
theorem cal_no {P : Program} {w : World} {K : PySem.W.Frag} {mg : Str → Option Value} {base : Heap} {x : Str} {st : Stmt} {ps : List Str} {k : Nat} (d : Fd K mg x st ps) : Cal P w K mg base k x ps (fun _ => .no) := by
  obtain ⟨f, fd, h1, h2, h3⟩ := d.ex
  obtain ⟨oc, od, kV, doc, pm, an, cdv, ct, osl, _, lk, _⟩ := h1.ex
  exact ⟨f, fd, ⟨fun A outer s H us vs Q E hr hg e0 hb rv hp => by
    obtain ⟨F0, ds, _, _, _, h4⟩ := hp
    exact h4.elim⟩, h2, h1.kp, h3, oc, od, osl, lk⟩
end DL
namespace DL
open PySem PySem.Spec PyProof.Rows L2
variable [Tabs]
/-! isinstance(e, (T1, T2)) -/
def isi2R (T1 T2 : String) (f : En → R D) : En → R D := fun env => (f env).bind fun d => .ok (.bool (isT T1 d || isT T2 d))
section
variable {X : Cx} {W : WX} {k : Nat} {m : Md} {pos p p2 p3 tpos : Pos} {a : Expr} {fa : En → R D} {kk : Nat}
theorem kit_any2 {K : PySem.W.Frag} {t u1 u2 : Value} {b1 b2 : Bool} (h1 : PySem.W.kitOne K t u1 = some b1) (h2 : PySem.W.kitOne K t u2 = some b2) : PySem.W.kitAny K t [u1, u2] = some (b1 || b2) := by
  unfold PySem.W.kitAny
  rw [h1]
  cases b1 with
  | true => rfl
  | false =>
    unfold PySem.W.kitAny
    rw [h2]
    cases b2 <;> rfl
theorem de_isi2 {T1 T2 : Str} {Ts1 Ts2 : String} (ha : DE X W .h a fa) (hT1 : Ts1 ∈ knownT := by decide) (hT2 : Ts2 ∈ knownT := by decide) (hg : Gl X "isinstance" := by rfl) (hm : X.mg "isinstance" = none)
    (hg1 : Gl X T1 := by rfl) (hm1 : X.mg T1 = none) (hb1 : bootBuiltins T1 = some (.type Ts1)) (hn1 : T1 ≠ "__name__" := by decide) (hdb1 : (T1 == ("__debug__" : Str)) = false := by decide)
    (hg2 : Gl X T2 := by rfl) (hm2 : X.mg T2 = none) (hb2 : bootBuiltins T2 = some (.type Ts2)) (hn2 : T2 ≠ "__name__" := by decide) (hdb2 : (T2 == ("__debug__" : Str)) = false := by decide)
    (he : starEach [a, .Tuple [.Name T1 p2, .Name T2 p3] kk tpos] X.env = (false, eval a X.env) :: starEach [.Tuple [.Name T1 p2, .Name T2 p3] kk tpos] X.env := by rfl)
    (he2 : starEach [.Tuple [.Name T1 p2, .Name T2 p3] kk tpos] X.env = (false, eval (.Tuple [.Name T1 p2, .Name T2 p3] kk tpos) X.env) :: starEach [] X.env := by rfl)
    (he3 : starEach [.Name T1 p2, .Name T2 p3] X.env = (false, eval (.Name T1 p2) X.env) :: starEach [.Name T2 p3] X.env := by rfl) (he4 : starEach [.Name T2 p3] X.env = (false, eval (.Name T2 p3) X.env) :: starEach [] X.env := by rfl)
    (hpl : (backTo pos (starEach [.Tuple [.Name T1 p2, .Name T2 p3] kk tpos] X.env)).any (·.1) = false := by rfl) :
    DE X W m (.Call (.Name "isinstance" p) [a, .Tuple [.Name T1 p2, .Name T2 p3] kk tpos] [] pos) (isi2R Ts1 Ts2 fa) :=
  (pe_callB call_isiT hg hm PyProof.Rows.boot_isinstance (pa_cons ha (pa_cons (pe_tup (pa_cons (pe_bltn (v := .ty Ts1) hg1 hm1 hb1 rfl hn1 hdb1) (pa_cons (pe_bltn (v := .ty Ts2) hg2 hm2 hb2 rfl hn2 hdb2) pa_nil he4) he3)) pa_nil he2) he) (by decide) (by decide) he hpl).wk fun σ H Q ⟨B, F, env, r, q⟩ =>
    tD.bind r q fun v H1 F1 d a1 r1 q1 p1 => by
      refine ⟨(by decide : (2 : Nat) ≤ sizeLine), fun t nt => ?_⟩
      have an := After.newO (F := F1) r1.fh (p := t) (o := .tup [.ty Ts1, .ty Ts2]) nt
      have q2 := q1.after an
      exact ⟨v, t, [.ty Ts1, .ty Ts2], _, [.type Ts1, .type Ts2], _, rfl, upd_same, .cons (.ty Ts1) (.cons (.ty Ts2) .nil), Dp.ty q2, kit_any2 (kit_isT q2 hT1) (kit_isT q2 hT2), p1 _ _ _ an (Rp.bl _)⟩
end
@[simp] theorem e_isi2R {T1 T2 : String} {f : En → R D} {env : En} : isi2R T1 T2 f env = (f env).bind fun d => .ok (.bool (isT T1 d || isT T2 d)) := rfl
end DL
namespace DL
open PySem PySem.Spec PyProof.Rows L2
variable [Tabs]
/-! the slot i is lent to a test -/
def lnT (i : Nat) (t : En → R Bool) : En → R Bool := fun env => match env[i]? with
  | some (some (.v s)) => if noT s = true then t (env.set i (some (.v (.fr s.toD)))) else .no
  | _ => .no
section
variable {X : Cx} {W : WX} {e : Expr} {t : En → R Bool}
theorem dt_lend (i : Nat) (h : DT X W e t) : DT X W e (lnT i t) := h.wk fun σ H Q ⟨B, F, env, r, p⟩ => by
  unfold lnT at p
  split at p
  · rename_i s ee
    split at p
    · rename_i hs
      obtain ⟨G, bs, r2, b1, b2, b3⟩ := r.lend ee hs
      refine ⟨B, G, _, r2, ?_⟩
      cases ef : t (env.set i (some (.v (.fr s.toD)))) with
      | no => rw [ef] at p; exact p
      | er c => rw [ef] at p; exact fun H' F' a => p H' _ (After.back b1 b3 a)
      | ok d => rw [ef] at p; exact fun H' F' a => p H' _ (After.back b1 b3 a)
    · exact p.elim
  · exact p.elim
end
theorem e_lnT {i : Nat} {t : En → R Bool} {env : En} {s : S} (h : env[i]? = some (some (.v s))) (hs : noT s = true) : lnT i t env = t (env.set i (some (.v (.fr s.toD)))) := by
  unfold lnT
  rw [h]
  dsimp only
  rw [if_pos hs]
theorem e_lnR {i : Nat} {f : En → R D} {env : En} {s : S} {d : D} (h : env[i]? = some (some (.v s))) (hs : noT s = true) (hd : f (env.set i (some (.v (.fr s.toD)))) = .ok d) (hn : noL d = true) : lnR i f env = .ok d := by
  unfold lnR
  rw [h]
  dsimp only
  rw [if_pos hs, hd, R.bind_ok, if_pos hn]
end DL
namespace DL
open PySem PySem.Spec PyProof.Rows L2
variable [Tabs]
/-! ### dicts that one slot alone knows -/
def dkey : D → Option Key
  | .int i => some (.inl i)
  | .str s => some (.inr s)
  | _ => none
theorem dkey_v {K : PySem.W.Frag} {m : Md} {F H : Hp} {v : V} {d : D} {k : Key} (h : dkey d = some k) (r : Rp K m F H v d) : v = kV k := by
  cases d with
  | int i => cases h; exact r.intI
  | str i => cases h; exact r.strI
  | _ => cases h
def valD (kds : List (Key × D)) (k : Key) : Option D := (kds.find? fun kv => decide (kv.1 = k)).map (·.2)
def putD (kds : List (Key × D)) (k : Key) (v : D) : List (Key × D) :=
  if (kds.any fun kv => decide (kv.1 = k)) = true then kds.map (fun kv => if kv.1 = k then (kv.1, v) else kv) else kds ++ [(k, v)]
def keysI : List (Key × D) → Option (List Int)
  | [] => some []
  | (.inl i, _) :: r => match keysI r with
    | some is => some (i :: is)
    | none => none
  | (.inr _, _) :: _ => none
section
variable {K : PySem.W.Frag} {F : Hp}
theorem Kd.val {kvs : List (Key × V)} {kds : List (Key × D)} (h : Kd K F kvs kds) (k : Key) : (valV kvs k).isSome = (valD kds k).isSome := by
  unfold Kd at h
  induction h with
  | nil => rfl
  | @cons p q ps qs h t ih =>
    unfold valV valD at *
    rw [List.find?_cons, List.find?_cons, h.1]
    by_cases e : q.1 = k
    · simp [e]
    · simpa [e] using ih
theorem Kd.any {kvs : List (Key × V)} {kds : List (Key × D)} (h : Kd K F kvs kds) (k : Key) : (kvs.any fun kv => decide (kv.1 = k)) = (kds.any fun kv => decide (kv.1 = k)) := by
  unfold Kd at h
  induction h with
  | nil => rfl
  | @cons p q ps qs h t ih => rw [List.any_cons, List.any_cons, h.1, ih]
theorem Kd.len {kvs : List (Key × V)} {kds : List (Key × D)} (h : Kd K F kvs kds) : kvs.length = kds.length := by
  unfold Kd at h
  induction h with
  | nil => rfl
  | cons h t ih => rw [List.length_cons, List.length_cons, ih]
theorem Kd.put {kvs : List (Key × V)} {kds : List (Key × D)} (h : Kd K F kvs kds) (k : Key) {v : V} {d : D} (hv : Dp K F v d) : Kd K F (putK kvs k v) (putD kds k d) := by
  have ha := h.any k
  unfold putK putD
  rw [ha]
  split
  · rename_i z
    clear ha z
    unfold Kd at h ⊢
    induction h with
    | nil => exact .nil
    | @cons p q ps qs h t ih =>
      rw [List.map_cons, List.map_cons]
      refine .cons ?_ ih
      rw [h.1]
      by_cases e : q.1 = k
      · rw [if_pos e, if_pos e]; exact ⟨rfl, hv⟩
      · rw [if_neg e, if_neg e]; exact h
  · rename_i z
    clear ha z
    unfold Kd at h ⊢
    induction h with
    | nil => exact .cons ⟨rfl, hv⟩ .nil
    | cons h t ih => exact .cons h ih
theorem Kd.keys {kvs : List (Key × V)} {kds : List (Key × D)} (h : Kd K F kvs kds) : ∀ ks, keysI kds = some ks → kvs.map (·.1) = ks.map Sum.inl := by
  unfold Kd at h
  induction h with
  | nil => intro ks e; cases e; rfl
  | @cons p q ps qs h t ih =>
    intro ks e
    obtain ⟨q1, q2⟩ := q
    cases q1 with
    | inr s => cases e
    | inl i =>
      simp only [keysI] at e
      split at e
      · rename_i is e2
        cases e
        rw [List.map_cons, List.map_cons, ih is e2, h.1]
      · cases e
theorem OwEn.mutM {H : Hp} : ∀ {σ : L2.St} {env : En} {as : List Addr} {i : Nat} {kds : List (Key × D)}, OwEn K F H σ env as → as.Nodup → env[i]? = some (some (.m kds)) →
    ∃ a kvs, σ[i]? = some (some (.ref a)) ∧ F a = none ∧ H a = some (.dK kvs) ∧ Kd K F kvs kds ∧ a ∈ as ∧
      ∀ kvs' kds', Kd K F kvs' kds' → OwEn K F (upd H a (.dK kvs')) σ (env.set i (some (.m kds'))) as
  | _, _, _, _, _, .nil, _, e => by simp at e
  | _, _, _, 0, _, .un t, _, e => by simp at e
  | _, _, _, i + 1, _, .un t, n, e => by
    obtain ⟨a, vs, h1, h2, h3, h4, h5, h9⟩ := OwEn.mutM (i := i) t n (by simpa using e)
    exact ⟨a, vs, by simpa using h1, h2, h3, h4, h5, fun kvs' kds' q => .un (h9 _ _ q)⟩
  | _, _, _, 0, _, .so (as := as) h t, n, e => by
    simp at e; subst e
    cases h with
    | @m a kvs _ p q o =>
      have n' := List.nodup_append.mp n
      have ta : ∀ b ∈ as, b ≠ a := fun b hb z => n'.2.2 a List.mem_cons_self b hb z.symm
      exact ⟨a, kvs, rfl, p, q, o, List.mem_append_left _ List.mem_cons_self, fun kvs' kds' q =>
        .so (.m p upd_same q) (t.mono (Same.refl _) fun b hb => ⟨(t.at b hb).1, upd_ne (ta b hb)⟩)⟩
  | _, _, _, i + 1, _, .so (bs := hs) (as := as) h t, n, e => by
    have n' := List.nodup_append.mp n
    obtain ⟨a, vs, h1, h2, h3, h4, h5, h9⟩ := OwEn.mutM (i := i) t n'.2.1 (by simpa using e)
    refine ⟨a, vs, by simpa using h1, h2, h3, h4, List.mem_append_right _ h5, fun kvs' kds' q => ?_⟩
    exact .so (h.mono (Same.refl _) fun b hb => ⟨(h.at b hb).1, upd_ne fun z => n'.2.2 b hb a h5 z⟩) (h9 _ _ q)
theorem Rel.mutM {B H F' H' : Hp} {env : En} {σ : L2.St} {i : Nat} {kds : List (Key × D)} (r : Rel K B F H env σ) (x : After F H F' H') (e : env[i]? = some (some (.m kds))) :
    ∃ a kvs, σ[i]? = some (some (.ref a)) ∧ F' a = none ∧ H' a = some (.dK kvs) ∧ Kd K F' kvs kds ∧
      ∀ kvs' kds', Kd K F' kvs' kds' → Rel K B F' (upd H' a (.dK kvs')) (env.set i (some (.m kds'))) σ := by
  obtain ⟨as, h1, h2, h3⟩ := r.sl
  have h4 : OwEn K F' H' σ env as := h1.mono x.ff fun a ha => x.keepO (h1.at a ha)
  obtain ⟨a, kvs, q1, q2, q3, q4, q5, q9⟩ := h4.mutM h2 e
  refine ⟨a, kvs, q1, q2, q3, q4, fun kvs' kds' w => ?_⟩
  have rb := r.bh.trans x.hh
  have rf : Same F' H' := x.fh
  exact ⟨rb.updR _ _ (h3 a q5), rf.updR _ _ q2, as, q9 _ _ w, h2, h3⟩
theorem Rel.setM {B H F' H' : Hp} {env : En} {σ : L2.St} {i : Nat} {p : Addr} {kvs : List (Key × V)} {kds : List (Key × D)} (r : Rel K B F H env σ) (x : After F H F' H') (hp : H p = none) (hF : F' p = none)
    (kd : Kd K F' kvs kds) : Rel K B F' (upd H' p (.dK kvs)) (env.set i (some (.m kds))) (σ.set i (some (.ref p))) := by
  obtain ⟨as, h1, h2, h3⟩ := r.sl
  have np : ∀ a ∈ as, a ≠ p := fun a ha z => by
    obtain ⟨_, o, e, _⟩ := h1.at a ha
    rw [z, hp] at e; cases e
  have h4 : OwEn K F' H' σ env as := h1.mono x.ff fun a ha => x.keepO (h1.at a ha)
  have h5 : OwEn K F' (upd H' p (.dK kvs)) σ env as := h4.mono (Same.refl _) fun a ha => ⟨(h4.at a ha).1, upd_ne (np a ha)⟩
  obtain ⟨cs, q1, q2, q3⟩ := OwEn.set (.m hF upd_same kd) i h5 h2 (by simp) fun a ha hm => by
    rcases List.mem_cons.mp ha with z | z
    · exact np a hm z
    · cases z
  have hb : B p = none := r.bh.free hp
  refine ⟨(r.bh.trans x.hh).updR _ _ hb, x.fh.updR _ _ hF, cs, q1, q2, fun a ha => (q3 a ha).elim (h3 a) fun z => ?_⟩
  rcases List.mem_cons.mp z with w | w
  · rw [w]; exact hb
  · cases w
end
section
variable {X : Cx} {W : WX} {k : Nat} {m : Md} {pos pos' xp : Pos} {e v : Expr} {f g : En → R D}
/-- x = {e: v} -/
def mkM (i : Nat) (f g : En → R D) : En → SR := fun env => (f env).st env fun d => match dkey d with
  | some k => (g env).st env fun v => .nx (env.set i (some (.m [(k, v)])))
  | none => .no
theorem ds_mk {x : Str} (i : Nat) (nd : X.N.Nodup) (he : DE X W .f e f) (hv : DE X W .f v g) (hi : X.N[i]? = some x := by rfl) (hx : Loc X.env.scope x := by first | exact Or.inl rfl | exact Or.inr rfl) (hs : swapsWith (.Dict [some e] [v] pos') (some (.Name x xp)) pos.line X.env = pure false := by rfl)
    (hf : X.fn x = true ∨ X.env.scope.names.lookup x = some .local := by first | exact Or.inl rfl | exact Or.inr rfl) : DS X W (.Assign [.Name x xp] (.Dict [some e] [v] pos') pos) (mkM i f g) :=
  (ps_set nd hi hx (pe_disp (pps_cons he hv pps_nil) rfl rfl (by simp) (by simp)) hs hf).wk fun D σ H ⟨B, F, env, r, p⟩ => fun p0 hp => by
    have a0 := After.newO (o := .dK []) r.fh hp
    have r0 := r.after a0
    refine tD.st r0 p fun v H1 F1 d a1 r1 q1 p1 => ?_
    cases ek : dkey d with
    | none => rw [ek] at p1; exact p1.elim
    | some k =>
      rw [ek] at p1
      refine tD.st r1 p1 fun u H2 F2 c a2 r2 q2 p2 => ?_
      have a3 := a1.trans a2
      refine ⟨a3.hh _ _ upd_same, [(k, u)], ?_, by simp, p2 _ _ F2 AfterS.refl (r.setM (a0.trans a3) hp ?_ (.cons ⟨rfl, q2⟩ .nil))⟩
      · rw [dkey_v ek q1]; rfl
      · cases z : F2 p0 with
        | none => rfl
        | some o =>
          have := a3.nw p0 o z (r.fh.free hp)
          rw [upd_same] at this; cases this
/-- e in x, e not in x -/
def inMR (i : Nat) (f : En → R D) : En → R D := fun env => (f env).bind fun d => match dkey d with
  | some k => match env[i]? with
    | some (some (.m kds)) => .ok (.bool (valD kds k).isSome)
    | _ => .no
  | none => .no
def ninMR (i : Nat) (f : En → R D) : En → R D := fun env => (f env).bind fun d => match dkey d with
  | some k => match env[i]? with
    | some (some (.m kds)) => .ok (.bool (!(valD kds k).isSome))
    | _ => .no
  | none => .no
theorem inM_at {K : PySem.W.Frag} {B F H : Hp} {env : En} {σ : L2.St} {i : Nat} {kds : List (Key × D)} (r : Rel K B F H env σ) (e : env[i]? = some (some (.m kds))) (k : Key) :
    ∃ a o, σ[i]? = some (some (.ref a)) ∧ DGet H a (kV k) o ∧ o.isSome = (valD kds k).isSome := by
  obtain ⟨a, kvs, q1, q2, q3, q4, _⟩ := r.mutM (After.refl r.fh) e
  exact ⟨a, _, q1, DGet.k q3, q4.val k⟩
theorem de_inM {x : Str} (i : Nat) (hu : X.A.units + 65 < cLine) (he : DE X W .h e f) (hN : X.N[i]? = some x := by rfl) (hv : Vis X.env.scope x := by first | exact Or.inl rfl | exact Or.inr (Or.inl rfl) | exact Or.inr (Or.inr rfl)) (hd : (x == ("__debug__" : Str)) = false := by decide)
    (hcd : (x == ("__classdict__" : Str)) = false := by decide) (hm : behindInMarks .In (.Name x xp) = false := by first | exact nomark _ | rfl) : DE X W m (.Compare e [.In] [.Name x xp] pos) (inMR i f) :=
  (pe_cmp (pc_din (by omega) he (pe_var hN hv hd hcd)) hm).wk fun σ H Q ⟨B, F, env, r, p⟩ => tD.bind r p fun v H1 F1 d a1 r1 q1 p1 => by
    cases ek : dkey d with
    | none => rw [ek] at p1; exact p1.elim
    | some k =>
      rw [ek] at p1
      dsimp only at p1
      split at p1
      · rename_i kds ee
        obtain ⟨a, o, z1, z2, z3⟩ := inM_at r1 ee k
        rw [dkey_v ek q1]
        refine ⟨.ref a, z1, a, o, rfl, z2, ?_⟩
        rw [z3]
        exact p1 _ H1 F1 (After.refl r1.fh) (Rp.bl _)
      · exact p1.elim
theorem de_ninM {x : Str} (i : Nat) (hu : X.A.units + 65 < cLine) (he : DE X W .h e f) (hN : X.N[i]? = some x := by rfl) (hv : Vis X.env.scope x := by first | exact Or.inl rfl | exact Or.inr (Or.inl rfl) | exact Or.inr (Or.inr rfl)) (hd : (x == ("__debug__" : Str)) = false := by decide)
    (hcd : (x == ("__classdict__" : Str)) = false := by decide) (hm : behindInMarks .NotIn (.Name x xp) = false := by first | exact nomark _ | rfl) : DE X W m (.Compare e [.NotIn] [.Name x xp] pos) (ninMR i f) :=
  (pe_cmp (pc_dnotin (by omega) he (pe_var hN hv hd hcd)) hm).wk fun σ H Q ⟨B, F, env, r, p⟩ => tD.bind r p fun v H1 F1 d a1 r1 q1 p1 => by
    cases ek : dkey d with
    | none => rw [ek] at p1; exact p1.elim
    | some k =>
      rw [ek] at p1
      dsimp only at p1
      split at p1
      · rename_i kds ee
        obtain ⟨a, o, z1, z2, z3⟩ := inM_at r1 ee k
        rw [dkey_v ek q1]
        refine ⟨.ref a, z1, a, o, rfl, z2, ?_⟩
        rw [z3]
        exact p1 _ H1 F1 (After.refl r1.fh) (Rp.bl _)
      · exact p1.elim
def inMT (i : Nat) (f : En → R D) : En → R Bool := fun env => (f env).bind fun d => match dkey d with
  | some k => match env[i]? with
    | some (some (.m kds)) => .ok (valD kds k).isSome
    | _ => .no
  | none => .no
theorem dt_inM {x : Str} (i : Nat) (hu : X.A.units + 65 < cLine) (he : DE X W .h e f) (hN : X.N[i]? = some x := by rfl) (hv : Vis X.env.scope x := by first | exact Or.inl rfl | exact Or.inr (Or.inl rfl) | exact Or.inr (Or.inr rfl)) (hd : (x == ("__debug__" : Str)) = false := by decide)
    (hcd : (x == ("__classdict__" : Str)) = false := by decide) (hm : behindInMarks .In (.Name x xp) = false := by first | exact nomark _ | rfl) : DT X W (.Compare e [.In] [.Name x xp] pos) (inMT i f) :=
  (pt_cmp (pc_din (by omega) he (pe_var hN hv hd hcd)) hm).wk fun σ H Q ⟨B, F, env, r, p⟩ => tD.bindT r p fun v H1 F1 d a1 r1 q1 p1 => by
    cases ek : dkey d with
    | none => rw [ek] at p1; exact p1.elim
    | some k =>
      rw [ek] at p1
      dsimp only at p1
      split at p1
      · rename_i kds ee
        obtain ⟨a, o, z1, z2, z3⟩ := inM_at r1 ee k
        rw [dkey_v ek q1]
        refine ⟨.ref a, z1, a, o, rfl, z2, ?_⟩
        rw [z3]
        exact ⟨_, rfl, p1 H1 F1 (After.refl r1.fh)⟩
      · exact p1.elim
def ninMT (i : Nat) (f : En → R D) : En → R Bool := fun env => (f env).bind fun d => match dkey d with
  | some k => match env[i]? with
    | some (some (.m kds)) => .ok (!(valD kds k).isSome)
    | _ => .no
  | none => .no
theorem dt_ninM {x : Str} (i : Nat) (hu : X.A.units + 65 < cLine) (he : DE X W .h e f) (hN : X.N[i]? = some x := by rfl) (hv : Vis X.env.scope x := by first | exact Or.inl rfl | exact Or.inr (Or.inl rfl) | exact Or.inr (Or.inr rfl)) (hd : (x == ("__debug__" : Str)) = false := by decide)
    (hcd : (x == ("__classdict__" : Str)) = false := by decide) (hm : behindInMarks .NotIn (.Name x xp) = false := by first | exact nomark _ | rfl) : DT X W (.Compare e [.NotIn] [.Name x xp] pos) (ninMT i f) :=
  (pt_cmp (pc_dnotin (by omega) he (pe_var hN hv hd hcd)) hm).wk fun σ H Q ⟨B, F, env, r, p⟩ => tD.bindT r p fun v H1 F1 d a1 r1 q1 p1 => by
    cases ek : dkey d with
    | none => rw [ek] at p1; exact p1.elim
    | some k =>
      rw [ek] at p1
      dsimp only at p1
      split at p1
      · rename_i kds ee
        obtain ⟨a, o, z1, z2, z3⟩ := inM_at r1 ee k
        rw [dkey_v ek q1]
        refine ⟨.ref a, z1, a, o, rfl, z2, ?_⟩
        rw [z3]
        exact ⟨_, rfl, p1 H1 F1 (After.refl r1.fh)⟩
      · exact p1.elim
/-- x[e] = v -/
def putM (i : Nat) (f g : En → R D) : En → SR := fun env => match env[i]? with
  | some (some (.m kds)) => (g env).st env fun v => (f env).st env fun d => match dkey d with
    | some k => if kds.length < 1000000 then .nx (env.set i (some (.m (putD kds k v)))) else .no
    | none => .no
  | _ => .no
theorem ds_put {x : Str} (i : Nat) (hu : X.A.units + 65 < cLine) (he : DE X W .f e f) (hg : DE X W .f v g) (hN : X.N[i]? = some x := by rfl) (hv : Vis X.env.scope x := by first | exact Or.inl rfl | exact Or.inr (Or.inl rfl) | exact Or.inr (Or.inr rfl)) (hd : (x == ("__debug__" : Str)) = false := by decide)
    (hcd : (x == ("__classdict__" : Str)) = false := by decide) (hs : swapsWith v (some (.Subscript (.Name x xp) e pos')) pos.line X.env = pure false := by rfl) : DS X W (.Assign [.Subscript (.Name x xp) e pos'] v pos) (putM i f g) :=
  (ps_dput (by omega) (pe_var hN hv hd hcd) he hg hs).wk fun D σ H ⟨B, F, env, r, p⟩ => by
    unfold putM at p
    split at p
    · rename_i kds ee
      refine tD.st r p fun v H1 F1 c a1 r1 q1 p1 => ?_
      obtain ⟨a, _, q0, _⟩ := r1.mutM (After.refl r1.fh) ee
      refine ⟨.ref a, q0, tD.st r1 p1 fun u H2 F2 d a2 r2 q2 p2 => ?_⟩
      cases ek : dkey d with
      | none => rw [ek] at p2; exact p2.elim
      | some k =>
        rw [ek] at p2
        dsimp only at p2
        split at p2
        · rename_i hl
          obtain ⟨a', kvs, w1, w2, w3, w4, w9⟩ := r2.mutM (After.refl r2.fh) ee
          obtain rfl : a' = a := by
            have := w1.symm.trans q0
            simpa using this
          rw [dkey_v ek q2]
          exact ⟨a', _, rfl, DPut.k w3 (by have := w4.len; have := million; omega), p2 _ _ F2 AfterS.refl (w9 _ _ (w4.put k (q1.after a2)))⟩
        · exact p2.elim
    · exact p.elim
/-- sorted(x), the keys ints -/
def srtM (i : Nat) : En → R S := fun env => match env[i]? with
  | some (some (.m kds)) => match keysI kds with
    | some ks => if ks.length < 64 then sortL ks else .no
    | none => .no
  | _ => .no
theorem do_srtM {x y : Str} {yp : Pos} (i : Nat) (hc : X.calm = true) (hg : Gl X y) (hmg : X.mg y = none) (hb : bootBuiltins y = some (.builtin "sorted")) (hN : X.N[i]? = some x := by rfl) (hv : Vis X.env.scope x := by first | exact Or.inl rfl | exact Or.inr (Or.inl rfl) | exact Or.inr (Or.inr rfl)) (hd : (x == ("__debug__" : Str)) = false := by decide)
    (hcd : (x == ("__classdict__" : Str)) = false := by decide) (hn : y ≠ "__name__" := by decide) (hdb : (y == ("__debug__" : Str)) = false := by decide)
    (hs : starEach [.Name x xp] X.env = (false, eval (.Name x xp) X.env) :: starEach [] X.env := by rfl) (hpl : (backTo pos (starEach [] X.env)).any (·.1) = false := by rfl) : DO X W (.Call (.Name y yp) [.Name x xp] [] pos) (srtM i) :=
  (pe_callB (call_sortedDI hc) hg hmg hb (pa_cons (pe_var hN hv hd hcd) pa_nil hs) hn hdb hs hpl).wk fun σ H Q ⟨B, F, env, r, p⟩ => by
    unfold srtM at p
    split at p
    · rename_i kds ee
      split at p
      · rename_i ks ek
        split at p
        · rename_i hl
          obtain ⟨a, kvs, q1, q2, q3, q4, _⟩ := r.mutM (After.refl r.fh) ee
          refine ⟨.ref a, q1, a, kvs, ks, rfl, .of q3, q4.keys ks ek, hl, fun ys l h2 h3 n => ?_⟩
          rw [sortI_eq h2 h3]
          have q := OwAll.ofDp (F := F) (H := upd H l (.lst ((sortI ks).map V.int))) (dp_ints (K := X.K) (sortI ks))
          rw [List.map_map] at q
          exact p _ _ _ [l] (After.newO r.fh n) (.ow (as := []) (r.fh.free n) upd_same q) (by simp) (fun x hx => by
            rcases List.mem_cons.mp hx with e | e
            · subst e; exact n
            · cases e)
        · exact p.elim
      · exact p.elim
    · exact p.elim
end
end DL
namespace DL
open PySem PySem.Spec PyProof.Rows L2
/-! ### quiet evaluation: what stands is kept to the bit, no generator is touched -/
mutual
/-- the value u carries d in the heap h -/
inductive VD (h : Heap) : Value → D → Prop
  | non : VD h .none .none
  | bl (b : Bool) : VD h (.bool b) (.bool b)
  | int (i : Int) (t : Tok) : VD h (.int i t) (.int i)
  | str (x : Str) (t : Tok) : VD h (.str x t) (.str x)
  | tup {a : Addr} {us : List Value} {ds : List D} : us.length ≤ sizeLine → IsTup h a us.toArray → VDs h us ds → VD h (.ref a) (.tuple ds)
  | lst {a : Addr} {us : List Value} {ds : List D} : us.length ≤ sizeLine → h.IsList a us.toArray → VDs h us ds → VD h (.ref a) (.list ds)
inductive VDs (h : Heap) : List Value → List D → Prop
  | nil : VDs h [] []
  | cons {u : Value} {d : D} {us : List Value} {ds : List D} : VD h u d → VDs h us ds → VDs h (u :: us) (d :: ds)
end
section
variable {h h' : Heap}
mutual
/-- kept where the objects that have a class are kept -/
theorem VD.keepC (k : ∀ b o, o.cls ≠ .none → h.get? b = some o → h'.get? b = some o) : ∀ (d : D) (u : Value), VD h u d → VD h' u d
  | .none, _, .non => .non
  | .bool _, _, .bl b => .bl b
  | .int _, _, .int i t => .int i t
  | .str _, _, .str x t => .str x t
  | .tuple ds, _, .tup z p q => .tup z (let ⟨o, e, c, r⟩ := p; ⟨o, k _ o (by rw [c]; exact fun z => nomatch z) e, c, r⟩) (VDs.keepC k ds _ q)
  | .list ds, _, .lst z p q => .lst z (let ⟨o, e, c, r⟩ := p; ⟨o, k _ o (by rw [c]; exact fun z => nomatch z) e, c, r⟩) (VDs.keepC k ds _ q)
  | .dict _, _, x => by cases x
theorem VDs.keepC (k : ∀ b o, o.cls ≠ .none → h.get? b = some o → h'.get? b = some o) : ∀ (ds : List D) (us : List Value), VDs h us ds → VDs h' us ds
  | [], _, .nil => .nil
  | d :: ds, _, .cons p q => .cons (VD.keepC k d _ p) (VDs.keepC k ds _ q)
end
theorem VD.keeps (k : ∀ b o, h.get? b = some o → h'.get? b = some o) (d : D) (u : Value) (v : VD h u d) : VD h' u d := VD.keepC (fun b o _ => k b o) d u v
theorem VDs.keeps (k : ∀ b o, h.get? b = some o → h'.get? b = some o) (ds : List D) (us : List Value) (v : VDs h us ds) : VDs h' us ds := VDs.keepC (fun b o _ => k b o) ds us v
theorem VDs.len : ∀ {us : List Value} {ds : List D}, VDs h us ds → us.length = ds.length
  | _, _, .nil => rfl
  | _, _, .cons _ q => by simp [VDs.len q]
theorem VDs.get : ∀ {us : List Value} {ds : List D} {i : Nat} {d : D}, VDs h us ds → ds[i]? = some d → ∃ u, us[i]? = some u ∧ VD h u d
  | _, _, _, _, .nil, e => by simp at e
  | _, _, 0, _, .cons p _, e => by simp at e; subst e; exact ⟨_, rfl, p⟩
  | _, _, i + 1, _, .cons _ q, e => by
    obtain ⟨u, h1, h2⟩ := VDs.get (i := i) q (by simpa using e)
    exact ⟨u, by simpa using h1, h2⟩
theorem VDs.getU : ∀ {us : List Value} {ds : List D} {i : Nat} {u : Value}, VDs h us ds → us[i]? = some u → ∃ d, ds[i]? = some d ∧ VD h u d
  | _, _, _, _, .nil, e => by simp at e
  | _, _, 0, _, .cons p _, e => by simp at e; subst e; exact ⟨_, rfl, p⟩
  | _, _, i + 1, _, .cons _ q, e => by
    obtain ⟨d, h1, h2⟩ := VDs.getU (i := i) q (by simpa using e)
    exact ⟨d, by simpa using h1, h2⟩
end
section
variable {X : Cx} {pins : List (Addr × Obj)} {σ : L2.St} {H F : Hp} {s : Shared}
mutual
theorem VD.ofDp (I : Inv X pins σ H s) (f : Same F H) : ∀ (d : D) (v : V) (u : Value), Dp X.K F v d → RelV v u → VD s.heap u d
  | .none, _, _, .non, r => by cases r; exact .non
  | .bool _, _, _, .bl b, r => by cases r; exact .bl b
  | .int _, _, _, .int i, r => by obtain ⟨t, rfl⟩ := r; exact .int i t
  | .str _, _, _, .str x, r => by obtain ⟨t, rfl⟩ := r; exact .str x t
  | .tuple ds, _, _, .tup p q, r => by
    cases r
    obtain ⟨its, rv, pt, z⟩ := I.tuple (SqT.same f p)
    exact .tup (by rw [← rv.length]; exact z) pt (VDs.ofDp I f ds _ _ q rv)
  | .list ds, _, _, .lst p q, r => by
    cases r
    obtain ⟨its, rv, pt, z⟩ := I.list (f.seq p)
    exact .lst (by rw [← rv.length]; exact z) pt.isList (VDs.ofDp I f ds _ _ q rv)
  | .dict _, _, _, x, _ => by cases x
theorem VDs.ofDp (I : Inv X pins σ H s) (f : Same F H) : ∀ (ds : List D) (vs : List V) (us : List Value), DpAll X.K F vs ds → Vals vs us → VDs s.heap us ds
  | [], _, _, .nil, .nil => .nil
  | d :: ds, _, _, .cons p q, .cons r rs => .cons (VD.ofDp I f d _ _ p r) (VDs.ofDp I f ds _ _ q rs)
end
end
/-- a frame in which something is evaluated quietly; N: the slots' names -/
structure QX where
  P : Program
  w : World
  K : PySem.W.Frag
  mg : Str → Option Value
  base : Heap
  env : Env
  N : Nat → Option Str
structure QO (q : QX) : Prop where
  mod : Mod q.K q.mg q.base
  kind : q.env.scope.kind = .function
  glob : q.env.globals = mainGlobals
structure QR (q : QX) (env : En) (s : Shared) : Prop where
  bk : ∀ b o, q.base.get? b = some o → s.heap.get? b = some o
  loc : ∃ m, s.heap.Ns q.env.locals m ∧ ∀ i x d, q.N i = some x → env[i]? = some (some (.v (.fr d))) → ∃ u, m x = some u ∧ VD s.heap u d
theorem kp_refl (s : Shared) : Keeps s s := ⟨s.heap, s.toks, rfl, fun _ _ e => e⟩
theorem kp_tok (s : Shared) (t : Nat) : Keeps s { s with toks := t } := ⟨s.heap, t, rfl, fun _ _ e => e⟩
theorem kp_trans {s s1 s2 : Shared} (a : Keeps s s1) (b : Keeps s1 s2) : Keeps s s2 := by
  obtain ⟨h1, t1, rfl, k1⟩ := a
  obtain ⟨h2, t2, rfl, k2⟩ := b
  exact ⟨h2, t2, rfl, fun b o e => k2 b o (k1 b o e)⟩
theorem kp_heap {s s1 : Shared} (a : Keeps s s1) : ∀ b o, s.heap.get? b = some o → s1.heap.get? b = some o := by
  obtain ⟨h1, t1, rfl, k1⟩ := a
  exact k1
theorem QR.keep {q : QX} {env : En} {s s1 : Shared} (r : QR q env s) (a : Keeps s s1) : QR q env s1 := by
  have k := kp_heap a
  obtain ⟨m, h1, h2⟩ := r.loc
  refine ⟨fun b o e => k b o (r.bk b o e), m, h1.keeps k, fun i x d e1 e2 => ?_⟩
  obtain ⟨u, z1, z2⟩ := h2 i x d e1 e2
  exact ⟨u, z1, z2.keeps k _ _⟩
/-- e answers f of the slots, quietly -/
def QDE (q : QX) (k : Nat) (e : Expr) (f : En → R D) : Prop := ∀ (A : Around) (s : Shared) (E : Value → Shared → Prop) (env : En) (d : D), Room k A → QR q env s → f env = .ok d →
  wpAny (model q.P q.w) A (eval e q.env) (fun y s' => VD s'.heap y d ∧ Keeps s s') E s
def QDT (q : QX) (k : Nat) (e : Expr) (f : En → R Bool) : Prop := ∀ (A : Around) (s : Shared) (E : Value → Shared → Prop) (env : En) (b : Bool), Room k A → QR q env s → f env = .ok b →
  wpAny (model q.P q.w) A (isTrue e q.env (eval e q.env)) (fun c s' => c = b ∧ Keeps s s') E s
/-- several, from the left -/
def QDA (q : QX) (k : Nat) (es : List Expr) (f : En → R (List D)) : Prop := ∀ (pos : Pos) (A : Around) (s : Shared) (E : Value → Shared → Prop) (env : En) (ds : List D), Room k A → QR q env s → f env = .ok ds →
  wpAny (model q.P q.w) A (spliced (backTo pos (starEach es q.env))) (fun us s' => VDs s'.heap us ds ∧ Keeps s s') E s
section
variable {q : QX} {k : Nat} {pos : Pos} {j : Nat} {a b : Expr} {fa fb : En → R D}
theorem bind_ok {A B : Type} {r : R A} {f : A → R B} {b : B} (h : r.bind f = .ok b) : ∃ a, r = .ok a ∧ f a = .ok b := by
  cases r with
  | ok a => exact ⟨a, rfl, h⟩
  | er c => cases h
  | no => cases h
theorem qde_var {x : Str} (o : QO q) (i : Nat) (hN : q.N i = some x := by rfl) (hv : q.env.kindOf x = some .local := by rfl) (hd : (x == ("__debug__" : Str)) = false := by decide) : QDE q k (.Name x pos) (vf i) := by
  intro A s E env d _ r e
  obtain ⟨m, h1, h2⟩ := r.loc
  unfold vf at e
  split at e
  · rename_i d' e2
    cases e
    obtain ⟨u, z1, z2⟩ := h2 i x _ hN e2
    exact wpAny_Name (wpAny_loadName_local o.kind hv h1 z1 ⟨z2, kp_refl s⟩) hd
  · cases e
theorem qde_int {i : Int} : QDE q k (.Constant (.int i) j pos) (fun _ => .ok (.int i)) := by
  intro A s E env d _ r e
  cases e
  exact wpAny_Constant_int ⟨.int i _, kp_tok s _⟩
theorem qde_bl {i : Bool} : QDE q k (.Constant (.bool i) j pos) (fun _ => .ok (.bool i)) := by
  intro A s E env d _ r e
  cases e
  exact Constant_bool ⟨.bl i, kp_refl s⟩
theorem qde_non : QDE q k (.Constant .none j pos) (fun _ => .ok .none) := by
  intro A s E env d _ r e
  cases e
  exact Constant_none ⟨.non, kp_refl s⟩
/-- a is None -/
theorem VD.isN {h : Heap} {u : Value} {d : D} (v : VD h u d) : (u == Value.none) = isNo d := by cases v <;> rfl
theorem qt_isN (ha : QDE q k a fa) {p p2 : Pos} : QDT q k (.Compare a [.Is] [.Constant .none j p] p2) (fun env => (fa env).bind fun x => .ok (isNo x)) := by
  intro A s E env c rm r e
  obtain ⟨d, e1, e2⟩ := bind_ok e
  cases e2
  refine wpAny_isTrue_Compare1 (thn (ha A s E env d rm r e1) fun u s1 ⟨v, k1⟩ => ?_)
  refine Constant_none ?_
  refine is_none_gen ?_
  refine wpAny_truthy_bool ⟨?_, k1⟩
  cases v <;> rfl
/-- a * b of ints -/
theorem qde_mul (ha : QDE q k a fa) (hb : QDE q k b fb) : QDE q k (.BinOp a .Mult b pos) (fun env => (fa env).bind fun x => (fb env).bind fun y => mulD x y) := by
  intro A s E env c rm r e
  obtain ⟨d1, e1, e⟩ := bind_ok e
  obtain ⟨d2, e2, e⟩ := bind_ok e
  refine wpAny_BinOp (thn (ha A s E env d1 rm r e1) fun u s1 ⟨v1, k1⟩ => thn (hb A s1 E env d2 rm (r.keep k1) e2) fun u2 s2 ⟨v2, k2⟩ => ?_)
  have v1 := v1.keeps (kp_heap k2) _ _
  unfold mulD gI i2 at e
  split at e
  · rename_i i j
    dsimp only at e
    split at e
    · rename_i hc
      cases e
      cases v1
      cases v2
      exact mul_int ⟨.int _ _, kp_trans (kp_trans k1 k2) (kp_tok s2 _)⟩ (CMulX.ok hc)
    · cases e
  · cases e
/-- a < b of ints -/
theorem qde_lt (ha : QDE q k a fa) (hb : QDE q k b fb) (hm : behindInMarks .Lt b = false := by rfl) : QDE q k (.Compare a [.Lt] [b] pos) (fun env => (fa env).bind fun x => (fb env).bind fun y => ltD x y) := by
  intro A s E env c rm r e
  obtain ⟨d1, e1, e⟩ := bind_ok e
  obtain ⟨d2, e2, e⟩ := bind_ok e
  refine wpAny_Compare1 (thn (ha A s E env d1 rm r e1) fun u s1 ⟨v1, k1⟩ => thn (hb A s1 E env d2 rm (r.keep k1) e2) fun u2 s2 ⟨v2, k2⟩ => ?_) hm
  have v1 := v1.keeps (kp_heap k2) _ _
  unfold ltD gB0 i2 at e
  split at e
  · rename_i i j
    dsimp only at e
    cases e
    cases v1
    cases v2
    exact lt_int ⟨.bl _, kp_trans k1 k2⟩
  · cases e
end
end DL
namespace DL
open PySem PySem.Spec PyProof.Rows L2
section
variable {q : QX} {k : Nat} {pos : Pos} {j : Nat} {a b : Expr} {fa fb : En → R D}
/-- a[b] of a tuple or list -/
theorem qde_ix (ha : QDE q k a fa) (hb : QDE q k b fb) (hs : PlainIx b := by intro _ _; rfl) : QDE q k (.Subscript a b pos) (fun env => (fa env).bind fun x => (fb env).bind fun y => ixD x y) := by
  intro A s E env c rm r e
  obtain ⟨d1, e1, e⟩ := bind_ok e
  obtain ⟨d2, e2, e⟩ := bind_ok e
  refine Subscript_ (thn (ha A s E env d1 rm r e1) fun u s1 ⟨v1, k1⟩ => thn (hb A s1 E env d2 rm (r.keep k1) e2) fun u2 s2 ⟨v2, k2⟩ => ?_)
  have v1 := v1.keeps (kp_heap k2) _ _
  cases d2 with
  | int i =>
    obtain ⟨t, rfl⟩ : ∃ t, u2 = .int i t := by cases v2; exact ⟨_, rfl⟩
    unfold ixD at e
    dsimp only at e
    split at e
    · rename_i ds
      split at e
      · rename_i d' ei
        cases e
        cases v1 with
        | @lst p us _ hz hl hv =>
          obtain ⟨n, h1, h2, h3, h4, h5⟩ := L2.atI_get ei
          obtain ⟨u', g1, g2⟩ := hv.get h2
          have hlen := hv.len
          have hm := line63
          by_cases h0 : 0 ≤ i
          · have hj : i.toNat = n := by
              rw [seqIndex_of h0 h5] at h1
              exact Option.some.inj h1
            exact item_listR hl h0 (by omega) (by rw [hj]; simpa using g1) ⟨g2, kp_trans k1 k2⟩ (hs _ _)
          · have hj : (i + (us.toArray.size : Int)).toNat = n := by
              rw [seqIndex_neg (by omega) h4] at h1
              rw [List.size_toArray, hlen]
              exact Option.some.inj h1
            exact subscriptTail_builtinR (x := u') hl.typeIs slot_list_getitem.lookup
              (wpAny_getItem_list_neg (Q := fun y s' => y = u' ∧ VD s'.heap y _ ∧ Keeps s s') hl (by omega) (by rw [List.size_toArray]; omega) (by omega) (by rw [hj]; simpa using g1) ⟨rfl, g2, kp_trans k1 k2⟩) (hs _ _)
      · cases e
    · rename_i ds
      split at e
      · rename_i d' ei
        cases e
        cases v1 with
        | @tup p us _ hz hl hv =>
          obtain ⟨n, h1, h2, h3, h4, h5⟩ := L2.atI_get ei
          obtain ⟨u', g1, g2⟩ := hv.get h2
          have hlen := hv.len
          have hm := line63
          exact subscriptTail_builtinR (x := u') hl.typeIs slot_tuple_getitem.lookup
            (getItem_tuple (j := n) (Q := fun y s' => y = u' ∧ VD s'.heap y _ ∧ Keeps s s') hl (by omega) (by omega) (by rw [List.size_toArray, hlen]; exact h1) (by simpa using g1) ⟨rfl, g2, kp_trans k1 k2⟩) (hs _ _)
      · cases e
    · cases e
  | _ => cases e

/-! statements that store nothing -/
def QDS (q : QX) (k : Nat) (st : Stmt) (T : En → SR) : Prop := ∀ (A : Around) (s : Shared) (E : Value → Shared → Prop) (env : En), Room k A → QR q env s →
  (∀ d, T env = .rt (.fr d) → wpAny (model q.P q.w) A (exec st q.env) (fun fl s' => ∃ u, fl = .ret u ∧ VD s'.heap u d ∧ Keeps s s') E s) ∧
  (∀ e', T env = .nx e' → e' = env ∧ wpAny (model q.P q.w) A (exec st q.env) (fun fl s' => fl = .next ∧ Keeps s s') E s)
def QDSs (q : QX) (k : Nat) (sts : List Stmt) (T : En → SR) : Prop := ∀ (A : Around) (s : Shared) (E : Value → Shared → Prop) (env : En), Room k A → QR q env s →
  (∀ d, T env = .rt (.fr d) → wpAny (model q.P q.w) A (execs sts q.env) (fun fl s' => ∃ u, fl = .ret u ∧ VD s'.heap u d ∧ Keeps s s') E s) ∧
  (∀ e', T env = .nx e' → e' = env ∧ wpAny (model q.P q.w) A (execs sts q.env) (fun fl s' => fl = .next ∧ Keeps s s') E s)
theorem qds_nil : QDSs q k [] nxS := by
  intro A s E env rm r
  refine ⟨fun d e => (by cases e), fun e' e => ?_⟩
  cases e
  exact ⟨rfl, wpAny_execs_nil ⟨rfl, kp_refl s⟩⟩
theorem qds_cons {st : Stmt} {sts : List Stmt} {T U : En → SR} (h1 : QDS q k st T) (h2 : QDSs q k sts U) : QDSs q k (st :: sts) (sqS T U) := by
  intro A s E env rm r
  have r1 := h1 A s E env rm r
  refine ⟨fun d e => ?_, fun e' e => ?_⟩
  · rw [e_sqS] at e
    cases eT : T env with
    | rt t =>
      rw [eT] at e
      have e : SR.rt t = .rt (.fr d) := e
      cases e
      exact wpAny_execs_cons (thn (r1.1 d eT) fun fl s1 ⟨u, z1, z2⟩ => by subst z1; exact ⟨u, rfl, z2⟩)
    | nx e1 =>
      rw [eT] at e
      obtain ⟨z0, z⟩ := r1.2 e1 eT
      subst z0
      refine wpAny_execs_cons (thn z fun fl s1 ⟨z1, z2⟩ => ?_)
      subst z1
      exact thn ((h2 A s1 E e1 rm (r.keep z2)).1 d e) fun fl s2 ⟨u, y1, y2, y3⟩ => ⟨u, y1, y2, kp_trans z2 y3⟩
    | _ => rw [eT] at e; cases e
  · rw [e_sqS] at e
    cases eT : T env with
    | nx e1 =>
      rw [eT] at e
      obtain ⟨z0, z⟩ := r1.2 e1 eT
      subst z0
      have y := (h2 A s E e1 rm r).2 e' e
      refine ⟨y.1, wpAny_execs_cons (thn z fun fl s1 ⟨z1, z2⟩ => ?_)⟩
      subst z1
      exact thn ((h2 A s1 E e1 rm (r.keep z2)).2 e' e).2 fun fl s2 ⟨y1, y2⟩ => ⟨y1, kp_trans z2 y2⟩
    | _ => rw [eT] at e; cases e
theorem qds_one {st : Stmt} {T : En → SR} (h1 : QDS q k st T) : QDSs q k [st] T := by
  intro A s E env rm r
  have r1 := h1 A s E env rm r
  refine ⟨fun d e => wpAny_execs_cons (thn (r1.1 d e) fun fl s1 ⟨u, z1, z2⟩ => by subst z1; exact ⟨u, rfl, z2⟩), fun e' e => ⟨(r1.2 e' e).1, wpAny_execs_cons (thn (r1.2 e' e).2 fun fl s1 ⟨z1, z2⟩ => by subst z1; exact wpAny_execs_nil ⟨rfl, z2⟩)⟩⟩
theorem qds_ret {e : Expr} {f : En → R D} (h : QDE q k e f) : QDS q k (.Return (some e) pos) (rtS f) := by
  intro A s E env rm r
  refine ⟨fun d z => ?_, fun e' z => ?_⟩
  · rw [e_rtS] at z
    cases ef : f env with
    | ok d' =>
      rw [ef] at z
      have z : SR.rt (.fr d') = .rt (.fr d) := z
      cases z
      exact wpAny_Return_some (thn (h A s E env d rm r ef) fun u s1 y => ⟨u, rfl, y⟩)
    | er c => rw [ef] at z; cases z
    | no => rw [ef] at z; cases z
  · rw [e_rtS] at z
    cases ef : f env with
    | ok d' => rw [ef] at z; cases z
    | er c => rw [ef] at z; cases z
    | no => rw [ef] at z; cases z
theorem qds_if {c : Expr} {t : En → R Bool} {st1 st2 : List Stmt} {T U : En → SR} (hc : QDT q k c t) (h1 : QDSs q k st1 T) (h2 : QDSs q k st2 U) : QDS q k (.If c st1 st2 pos) (ifS t T U) := by
  intro A s E env rm r
  cases et : t env with
  | er c => exact ⟨fun d z => (by rw [e_ifS, et] at z; cases z), fun d z => (by rw [e_ifS, et] at z; cases z)⟩
  | no => exact ⟨fun d z => (by rw [e_ifS, et] at z; cases z), fun d z => (by rw [e_ifS, et] at z; cases z)⟩
  | ok bb =>
    cases bb with
    | true =>
      refine ⟨fun d z => ?_, fun e' z => ?_⟩
      · rw [e_ifS, et] at z
        refine wpAny_If (thn (hc A s E env true rm r et) fun bv s1 ⟨z1, z2⟩ => ?_)
        subst z1
        exact thn ((h1 A s1 E env rm (r.keep z2)).1 d z) fun fl s2 ⟨u, y1, y2, y3⟩ => ⟨u, y1, y2, kp_trans z2 y3⟩
      · rw [e_ifS, et] at z
        refine ⟨((h1 A s E env rm r).2 e' z).1, wpAny_If (thn (hc A s E env true rm r et) fun bv s1 ⟨z1, z2⟩ => ?_)⟩
        subst z1
        exact thn ((h1 A s1 E env rm (r.keep z2)).2 e' z).2 fun fl s2 ⟨y1, y2⟩ => ⟨y1, kp_trans z2 y2⟩
    | false =>
      refine ⟨fun d z => ?_, fun e' z => ?_⟩
      · rw [e_ifS, et] at z
        refine wpAny_If (thn (hc A s E env false rm r et) fun bv s1 ⟨z1, z2⟩ => ?_)
        subst z1
        exact thn ((h2 A s1 E env rm (r.keep z2)).1 d z) fun fl s2 ⟨u, y1, y2, y3⟩ => ⟨u, y1, y2, kp_trans z2 y3⟩
      · rw [e_ifS, et] at z
        refine ⟨((h2 A s E env rm r).2 e' z).1, wpAny_If (thn (hc A s E env false rm r et) fun bv s1 ⟨z1, z2⟩ => ?_)⟩
        subst z1
        exact thn ((h2 A s1 E env rm (r.keep z2)).2 e' z).2 fun fl s2 ⟨y1, y2⟩ => ⟨y1, kp_trans z2 y2⟩
/-- the test as the derivations write it -/
theorem qdt_isN {p p2 : Pos} (ha : QDE q k a fa) : QDT q k (.Compare a [.Is] [.Constant .none j p] p2) (t2 fa cN isD) := by
  intro A s E env c rm r e
  refine qt_isN ha A s E env c rm r ?_
  unfold t2 at e
  obtain ⟨d, e1, e2⟩ := bind_ok e
  show (fa env).bind _ = _
  rw [e1]
  exact e2
/-! ### quiet functions -/
structure QFn (P : Program) (w : World) (K : PySem.W.Frag) (mg : Str → Option Value) (base : Heap) (k : Nat) (x : Str) (n : Nat) (g : List D → R S) : Prop where
  ex : ∃ f, mg x = some (.ref f) ∧ PySem.W.keepIn K (.ref f) = true ∧ ∀ (A : Around) (s : Shared) (us : List Value) (ds : List D) (d : D), Room k A → (∀ b o, base.get? b = some o → s.heap.get? b = some o) →
    us.length = n → VDs s.heap us ds → g ds = .ok (.fr d) → codeAny (model P w) A (.call (.ref f) ⟨us, []⟩) (fun r s' => ∃ u, r = .ok (.ret u) ∧ VD s'.heap u d ∧ Keeps s s') s
end
section
variable {P : Program} {w : World} {K : PySem.W.Frag} {mg : Str → Option Value} {base : Heap}
theorem qfn_mk {x : Str} {st : Stmt} {N ps : List Str} {k : Nat} {T : En → SR} (M : Mod K mg base) (F0 : Fd K mg x st ps) (S : FnScope N ps (defScope st)) (hl : ∀ y ∈ ps, (defScope st).names.lookup y = some .local)
    (hT : ∀ env : Env, env.scope = defScope st → env.globals = mainGlobals → QDSs ⟨P, w, K, mg, base, env, fun i => ps[i]?⟩ k (defBody st) T) : QFn P w K mg base (k + 1) x ps.length (bodyR N ps.length T) := by
  obtain ⟨f, fd, h1, h2, h3⟩ := F0.ex
  obtain ⟨oc, od, kV, doc, pm, an, cdv, ct, osl, rfl, lk, hcd⟩ := h1.ex
  refine ⟨f, h2, h1.kp, fun A s us ds d rm hb hn hv hg => ?_⟩
  have inH : K.In s.heap := M.kin.keeps hb
  have noL : s.heap.NoLimit := M.nolimit.keeps hb
  have hz : (us ++ []).length = ps.length := by rw [List.append_nil]; exact hn
  have bb := h3 s us inH hz
  rw [List.append_nil] at bb
  have kinds : ∀ z ∈ ps.zip us, (defScope st).names.lookup z.1 = some .local ∨ ((defScope st).names.lookup z.1 = some .cell ∧ ((cellsFrom (s.heap.objs.size + 1) (defScope st).names []).lookup z.1).isSome = true) := by
    rintro ⟨n, u⟩ hz
    exact .inl (hl n (List.of_mem_zip hz).1)
  refine codeAny_call_function rm.depth (inH _ _ lk) rfl S.co S.gen rfl (PySem.W.codeRec_of inH hcd) (bb _ _ _ _ ?_)
  refine wpAny_newFunctionEnv_cells S.kind kinds fun env1 eq1 s1 made => ?_
  have ndP : ps.Nodup := by rw [← S.pre]; exact S.nd.sublist (List.take_sublist _ _)
  have kd : ∀ y ∈ ps, env1.kindOf y = some .local := fun y hy => by subst eq1; exact hl y hy
  have e1 : env1.scope = defScope st := by subst eq1; rfl
  have e2 : env1.globals = mainGlobals := by subst eq1; rfl
  refine ⟨noL.keeps made.toInCall.keep, codeAny_func ?_⟩
  have kp : Keeps s s1 := made.toInCall.done
  have hd : us.length = ds.length := hv.len
  have hn2 : ds.length = ps.length := hd.symm.trans hn
  have hr : QR ⟨P, w, K, mg, base, env1, fun i => ps[i]?⟩ (init N ds) s1 := by
    refine ⟨fun b o e => kp_heap kp b o (hb b o e), _, made.toInCall.ns, fun i y d' h4 h5 => ?_⟩
    have hi : i < ds.length := by
      have := (List.getElem?_eq_some_iff.mp h4).1
      omega
    unfold init at h5
    rw [List.getElem?_append_left (by simpa using hi), List.getElem?_map] at h5
    have h6 : ds[i]? = some d' := by
      cases z : ds[i]? with
      | none => rw [z] at h5; cases h5
      | some d0 => rw [z] at h5; cases h5; rfl
    obtain ⟨u, z1, z2⟩ := hv.get h6
    exact ⟨u, bindL_get ndP h4 z1 (kd y (List.mem_of_getElem? h4)), z2.keeps (kp_heap kp) _ _⟩
  unfold bodyR at hg
  rw [if_pos hn2] at hg
  have body := fun E => hT env1 e1 e2 (A.deeper env1) s1 E (init N ds) (rm.deeper _) hr
  cases eT : T (init N ds) with
  | rt t =>
    rw [eT] at hg
    have hg : R.ok t = .ok (.fr d) := hg
    cases hg
    exact wpAny_mono ((body _).1 d eT) (fun fl s2 ⟨u, z1, z2, z3⟩ => by subst z1; exact ⟨u, rfl, z2, kp_trans kp z3⟩) fun _ _ z => z
  | nx e' =>
    rw [eT] at hg
    have hg : R.ok (DL.S.fr .none) = .ok (.fr d) := hg
    cases hg
    exact wpAny_mono ((body _).2 e' eT).2 (fun fl s2 ⟨z1, z2⟩ => by subst z1; exact ⟨.none, rfl, .non, kp_trans kp z2⟩) fun _ _ z => z
  | er c e' => rw [eT] at hg; cases hg
  | bk e' => rw [eT] at hg; cases hg
  | ct e' => rw [eT] at hg; cases hg
  | no => rw [eT] at hg; cases hg
end
section
variable {q : QX} {k : Nat} {pos : Pos} {j : Nat} {e : Expr} {es : List Expr} {f : En → R D} {fs : En → R (List D)} {g : List D → R S}
theorem qda_nil : QDA q k [] nilA := by
  intro pos A s E env ds rm r z
  cases z
  exact Calls.spliced_nil ⟨.nil, kp_refl s⟩
theorem qda_cons (h1 : QDE q k e f) (h2 : QDA q k es fs) (he : starEach (e :: es) q.env = (false, eval e q.env) :: starEach es q.env := by rfl) : QDA q k (e :: es) (consA f fs) := by
  intro pos A s E env ds rm r z
  obtain ⟨d, z1, z⟩ := bind_ok z
  obtain ⟨ds', z2, z⟩ := bind_ok z
  cases z
  rw [he]
  show wpAny _ _ (spliced ((false, eval e q.env) :: backTo pos (starEach es q.env))) _ _ s
  refine Calls.spliced_cons (thn (h1 A s _ env d rm r z1) fun u s1 ⟨v1, k1⟩ => ?_)
  exact thn (h2 pos A s1 _ env ds' rm (r.keep k1) z2) fun us s2 ⟨v2, k2⟩ => ⟨.cons (v1.keeps (kp_heap k2) _ _) v2, kp_trans k1 k2⟩
/-- a value that no list belongs to -/
def frO (f : En → R S) : En → R D := fun env => (f env).bind fun s => match s with
  | .fr d => .ok d
  | _ => .no
@[simp] theorem e_frO {f : En → R S} {env : En} {d : D} (h : f env = .ok (.fr d)) : frO f env = .ok d := by
  unfold frO; rw [h]; rfl
/-- a call of a quiet function -/
theorem qde_call {x : Str} {p : Pos} {n : Nat} (o : QO q) (c : QFn q.P q.w q.K q.mg q.base k x n g) (hg : q.env.kindOf x = some .globalImplicit) (ha : QDA q k (e :: es) fs) (hn : ∀ ds env, fs env = .ok ds → ds.length = n) (hdb : (x == ("__debug__" : Str)) = false := by decide)
    (he : starEach (e :: es) q.env = (false, eval e q.env) :: starEach es q.env := by rfl) (hpl : (backTo pos (starEach es q.env)).any (·.1) = false := by rfl) : QDE q k (.Call (.Name x p) (e :: es) [] pos) (frO (cal fs g)) := by
  intro A s E env d rm r z
  obtain ⟨f, c1, c2, c3⟩ := c.ex
  obtain ⟨sv, z1, z⟩ := bind_ok z
  obtain ⟨ds, z2, z3⟩ := bind_ok z1
  have nl := hn ds env z2
  refine wpAny_Call_Name_kw (Calls.Name_function_global o.kind hg (Calls.loadGlobal_global (by rw [o.glob]; exact o.mod.glob.keeps r.bk) c1 ?_) hdb)
  refine PySem.W.callWith_K (h₀ := q.base) o.mod.kin c2 (thn (ha pos A s E env ds rm r z2) fun us s1 ⟨v1, k1⟩ => ⟨o.mod.kin.keeps fun b ob eb => kp_heap k1 b ob (r.bk b ob eb), ?_⟩) he hpl
  cases sv with
  | fr d' =>
    have z : R.ok d' = .ok d := z
    cases z
    refine wpAny_call (codeAny_mono (c3 A s1 us ds d rm (fun b ob eb => kp_heap k1 b ob (r.bk b ob eb)) (v1.len.trans nl) v1 z3) fun rr s2 ⟨u, y1, y2, y3⟩ => ?_)
    subst y1
    exact ⟨y2, kp_trans k1 y3⟩
  | ow xs => cases z
  | tu xs => cases z
end
end DL
namespace DL
open PySem PySem.Spec PyProof.Rows L2
variable [Tabs]
/-! ### any, all of a generator expression whose element is quiet -/
/-- the answers of the elements -/
def anyF (b : D → En → Option En) (f : En → R D) (env : En) : List D → R (List Bool)
  | [] => .ok []
  | d :: ds => match b d env with
    | none => .no
    | some e => match f e with
      | .ok (.bool k) => (anyF b f env ds).bind fun ks => .ok (k :: ks)
      | _ => .no
def gexR (vs : List Nat) (it : En → R (List D)) (b : D → En → Option En) (f : En → R D) (h : List Bool → Bool) : En → R D := fun env => match it env with
  | .ok ds => match anyF b f (wipeE env vs) ds with
    | .ok ks => .ok (.bool (h ks))
    | _ => .no
  | _ => .no
abbrev anyK (ks : List Bool) : Bool := ks.any id
abbrev allK (ks : List Bool) : Bool := ks.all id
theorem anyF_get {b : D → En → Option En} {f : En → R D} {env : En} : ∀ {ds : List D} {ks : List Bool}, anyF b f env ds = .ok ks → ds.length = ks.length ∧ ∀ (i : Nat) (d : D), ds[i]? = some d → ∃ (e : En) (k : Bool), b d env = some e ∧ f e = .ok (.bool k) ∧ ks[i]? = some k
  | [], ks, h => by cases h; exact ⟨rfl, fun i d e => by simp at e⟩
  | d :: ds, ks, h => by
    rw [anyF] at h
    cases e1 : b d env with
    | none => rw [e1] at h; cases h
    | some e =>
      rw [e1] at h
      dsimp only at h
      cases e2 : f e with
      | er c => rw [e2] at h; cases h
      | no => rw [e2] at h; cases h
      | ok v =>
        rw [e2] at h
        cases v <;> try (cases h; done)
        rename_i k
        obtain ⟨ks', e3, h⟩ := bind_ok h
        cases h
        obtain ⟨h1, h2⟩ := anyF_get e3
        refine ⟨by simp [h1], fun i d' hi => ?_⟩
        cases i with
        | zero => simp at hi; subst hi; exact ⟨e, k, e1, e2, rfl⟩
        | succ i => simpa using h2 i d' (by simpa using hi)
/-- the scope of a generator expression of two names -/
structure GenS2 (env : Env) (scope : Scope) (xa xb : Str) : Prop where
  kind : scope.kind = .function
  co : scope.isCoroutine = false
  cell : ∀ y ∈ scope.names, y.2 ≠ .cell
  dot : scope.names.lookup (".0" : Str) = some NameKind.local
  la : scope.names.lookup xa = some .local
  lb : scope.names.lookup xb = some .local
  free : ∀ y ∈ scope.names, y.2 = .free → ∃ c, env.cells.lookup y.1 = some c
  ab : xa ≠ xb
theorem Same.grow {H : Hp} {P : Addr} {ps more : Array Value} (hP : H P = some (.tbl ps)) (ht : TriplesOk (ps ++ more).toList) : Same H (L2.upd H P (.tbl (ps ++ more))) := ⟨fun b o e hn => by
  by_cases hb : b = P
  · subst hb; rw [hP] at e; cases e; cases hn
  · rw [upd_ne hb]; exact e, fun b qs e => by
  by_cases hb : b = P
  · subst hb; rw [hP] at e; cases e
    exact ⟨more, upd_same, fun _ => ht⟩
  · exact ⟨#[], by rw [upd_ne hb, Array.append_empty]; exact e, by rw [Array.append_empty]; exact id⟩⟩
theorem pass_all (n : Nat) : passing (fun _ => true) n 0 = List.range n := by unfold passing; simp
theorem any_range (ks : List Bool) : (List.range ks.length).any (fun i => ks.getD i false) = anyK ks := by
  rw [Bool.eq_iff_iff, List.any_eq_true, List.any_eq_true]
  constructor
  · rintro ⟨i, hi, h⟩
    have hi := List.mem_range.mp hi
    rw [List.getD_eq_getElem?_getD, List.getElem?_eq_getElem hi] at h
    exact ⟨_, List.getElem_mem hi, h⟩
  · rintro ⟨b, hb, h⟩
    obtain ⟨i, hi, e⟩ := List.getElem_of_mem hb
    refine ⟨i, List.mem_range.mpr hi, ?_⟩
    rw [List.getD_eq_getElem?_getD, List.getElem?_eq_getElem hi]
    rw [← e] at h; exact h
theorem all_range (ks : List Bool) : (List.range ks.length).all (fun i => ks.getD i false) = allK ks := by
  rw [Bool.eq_iff_iff, List.all_eq_true, List.all_eq_true]
  constructor
  · intro h b hb
    obtain ⟨i, hi, e⟩ := List.getElem_of_mem hb
    have := h i (List.mem_range.mpr hi)
    rw [List.getD_eq_getElem?_getD, List.getElem?_eq_getElem hi] at this
    rw [← e]; exact this
  · intro h i hi
    have hi := List.mem_range.mp hi
    rw [List.getD_eq_getElem?_getD, List.getElem?_eq_getElem hi]
    exact h _ (List.getElem_mem hi)
/-- a generator is ready in s5: its answers are ks; H1: what was tracked -/
def GRdy (X : Cx) (pins : List (Addr × Obj)) (σ : L2.St) (F1 H1 : Hp) (ks : List Bool) (g : Addr) (s5 : Shared) : Prop :=
  ∃ (fp wr : List Addr) (G : Array GenState → Array GenState → Prop) (Fv : Nat → Value → Prop) (St : Nat → Shared → Prop),
    WalksS X.prog X.w X.A.in1 g fp wr G ks.length Fv St ∧ St 0 s5 ∧ TruthOf X.prog X.w X.A.in1 Fv (fun i => ks.getD i false) ∧
    ∀ s', Moved wr G s5 s' → ∃ H2, After F1 H1 F1 H2 ∧ Inv X pins σ H2 s'
section
variable {X : Cx} {W : WX} {k : Nat} {m : Md} {pins : List (Addr × Obj)} {σ : L2.St}
theorem gen_zip {c P : Addr} {e1 e2 elt : Expr} {xa xb : Str} {pa pb pt zp zpos gpos : Pos} {kt ia ib : Nat} {scope : Scope} {fs : En → R (List D)} {fe : En → R D} {B F H : Hp} {env : En} {s : Shared} {ks : List Bool} {Q' : Value → Shared → Prop}
    (hr : Room (k + 1) X.A) (TB : GxR.TabB X.base X.mg c P) (hcode : X.env.code = .ref c) (hP : P ∈ Tabs.T) (S : GenS2 X.env scope xa xb) (ha : DA X W [.f, .f] [e1, e2] fs) (hz : Gl X "zip") (hzm : X.mg "zip" = none) (iab : ia ≠ ib) (hla : ia < env.length) (hlb : ib < env.length)
    (hel : ∀ cenv : Env, cenv.scope = scope → cenv.globals = mainGlobals → QDE ⟨X.prog, X.w, X.K, X.mg, X.base, cenv, fun i => if i = ia then some xa else if i = ib then some xb else none⟩ k elt fe)
    (hs : ∀ v, genFold (.Call (.Name "zip" zp) [e1, e2] [] zpos) X.env v = pure v)
    (I : Inv X pins σ H s) (r : Rel X.K B F H env σ) {ds : List D} (hfs : fs env = .ok ds) {zs : List D} (hzs : zip2 ds = .ok zs) (hks : anyF (tupG 2 (consG (setN ia) (consG (setN ib) nilG))) fe (wipeE env [ia, ib]) zs = .ok ks)
    (hst : starEach [e1, e2] X.env = (false, eval e1 X.env) :: starEach [e2] X.env := by rfl) (hpl : (backTo zpos (starEach [e2] X.env)).any (·.1) = false := by rfl)
    (hQ : ∀ F1 H1 g s5, After F H F1 H1 → GRdy X pins σ F1 H1 ks g s5 → Q' (.ref g) s5) :
    wpAny (model X.prog X.w) X.A (eval (.GeneratorExp elt [⟨.Tuple [.Name xa pa, .Name xb pb] kt pt, .Call (.Name "zip" zp) [e1, e2] [] zpos, [], 0⟩] scope gpos) X.env) Q' X.xe s := by
  obtain ⟨xs, ys, rfl, rfl⟩ : ∃ xs ys, ds = [.list xs, .list ys] ∧ zs = zipL xs ys := by
    unfold zip2 at hzs
    split at hzs
    · cases hzs; exact ⟨_, _, rfl, rfl⟩
    · cases hzs
  obtain ⟨hlen, hget⟩ := anyF_get hks
  refine wpAny_GeneratorExp_walksQTD hr.hd S.co (closure_ok S.free) S.cell S.dot S.la S.lb S.ab S.kind hr.depth ?_ hs
  have arg : tA X.K (ecOf X.mg) W [.f, .f] fs σ H (fun vs H1 => ∃ F1, After F H F1 H1 ∧ RpL X.K F1 H1 [.f, .f] vs [.list xs, .list ys]) := by
    refine ⟨B, F, env, r, ?_⟩
    rw [hfs]
    exact fun vs H1 F1 a rl => ⟨F1, a, rl⟩
  refine Call_ (ld_blt I hz hzm PyProof.Rows.boot_zip (PyProof.Rows.callWith_type1 (thn (ha.run zpos pins s σ H _ I arg) fun us s1 ⟨vs, H1, I1, rv, F1, a, rl⟩ => ?_) hst hpl))
  obtain ⟨v1, v2, rfl, d1, d2⟩ : ∃ v1 v2, vs = [v1, v2] ∧ Dp X.K F1 v1 (.list xs) ∧ Dp X.K F1 v2 (.list ys) := by
    cases rl with
    | cons x1 rl => cases rl with
      | cons x2 rl => cases rl; exact ⟨_, _, rfl, x1, x2⟩
  obtain ⟨u1, u2, rfl, w1, w2⟩ : ∃ u1 u2, us = [u1, u2] ∧ VD s1.heap u1 (.list xs) ∧ VD s1.heap u2 (.list ys) := by
    cases rv with
    | cons y1 rv => cases rv with
      | cons y2 rv => cases rv; exact ⟨_, _, rfl, VD.ofDp I1 a.fh _ _ _ d1 y1, VD.ofDp I1 a.fh _ _ _ d2 y2⟩
  cases w1 with
  | @lst l1 its1 _ hz1 il1 vd1 =>
  cases w2 with
  | @lst l2 its2 _ hz2 il2 vd2 =>
  -- the table
  have r1 : Rel X.K B F1 H1 env σ := r.after a
  obtain ⟨ps, hPs, ht⟩ := r1.bh.tgH P hP
  have hPh : s1.heap.get? P = some { cls := .none, data := .fields ps } := I1.hok P _ hPs
  have lt1 : l1 < s1.heap.objs.size := by obtain ⟨o, e, _⟩ := il1; exact Heap.lt_size e
  have lt2 : l2 < s1.heap.objs.size := by obtain ⟨o, e, _⟩ := il2; exact Heap.lt_size e
  have ne1 : l1 ≠ P := fun z => by
    obtain ⟨o, e, c, _⟩ := il1
    rw [z, hPh] at e; cases e; cases c
  have ne2 : l2 ≠ P := fun z => by
    obtain ⟨o, e, c, _⟩ := il2
    rw [z, hPh] at e; cases e; cases c
  have ltP : P < s1.heap.objs.size := Heap.lt_size hPh
  refine call_zip_2 il1 il2 fun h2 hzz hTI hTO hi1 hi2 hsz hk2 => ?_
  have I2 : Inv X pins σ H1 { s1 with heap := h2 } := I1.kept (t' := s1.toks) hk2
  refine wpAny_pyIter_zip hzz ⟨I2.nolimit, ?_⟩
  have hP2 : h2.get? P = some { cls := .none, data := .fields ps } := hk2 _ _ hPh
  have cdh : PySem.W.CodeHd h2 c P := TB.code.keeps fun b u e => hk2 b u (I1.bk b u e)
  have goOn : ∀ (code : Value) (h3 : Heap) (tk : Nat) (more : Array Value), Heap.ExtBut P h2 h3 → h2.objs.size ≤ h3.objs.size → h3.get? P = some { cls := .none, data := .fields (ps ++ more) } → TriplesOk (ps ++ more).toList →
      wpAny (model X.prog X.w) X.A (builtinsFor X.env.globals X.env.builtins) (fun bi s₄ =>
        ∃ Ia fp wr n₀ Pt St₀ Mid pz Fv, Value.ref (s1.heap.objs.size + 4) = .ref Ia ∧ (∀ A' : Around, A'.handled = none → WalksU X.prog X.w A' Ia fp wr n₀ Pt St₀ Mid) ∧ (∀ i vals, Pt i vals → ∃ va vb, vals = #[va, vb]) ∧ St₀ 0 s₄.heap ∧ (∀ b ∈ fp, b < s₄.heap.objs.size) ∧ s₄.heap.NoLimit ∧ cStatics ∉ wr ∧
          (∀ href : Heap, (∀ b o, s₄.heap.get? b = some o → href.get? b = some o) →
            QuietGenTD X.prog X.w (genEnv scope (cloFrom X.env.cells scope.names []) s₄.heap.objs.size code bi X.env) xa xb [] elt (List.range s₄.heap.objs.size) wr Pt pz Fv href (X.A.depth + 1) (X.A.units + 8)) ∧
          (∀ g h₅ tk gs, gs.bare = true → s₄.heap.objs.size < g → h₅.objs.size = g + 1 → (∀ b o, s₄.heap.get? b = some o → h₅.get? b = some o) →
            WalksS X.prog X.w X.A.in4 g (g :: s₄.heap.objs.size :: List.range s₄.heap.objs.size) (s₄.heap.objs.size :: wr) (GenOnlyQ s₄.gens.size) (passing pz n₀ 0).length
              (fun j y => ∃ i, (passing pz n₀ 0)[j]? = some i ∧ Fv i y) (GenAt X.prog X.w X.A.in4 g s₄.gens.size s₄.heap.objs.size (List.range s₄.heap.objs.size) wr pz n₀ Fv) →
            GenAt X.prog X.w X.A.in4 g s₄.gens.size s₄.heap.objs.size (List.range s₄.heap.objs.size) wr pz n₀ Fv 0 { s₄ with gens := s₄.gens.push gs, toks := tk, heap := h₅ } →
            Q' (.ref g) { s₄ with gens := s₄.gens.push gs, toks := tk, heap := h₅ })) X.xe { s1 with heap := h3, toks := tk } := by
    intro code h3 tk more hx hge hP3 ht3
    obtain ⟨mm, mo, b1, b2', b3, b4, b5, b6, b7, b8⟩ := TB.bm
    have stP : cStatics ≠ P := fun z => by
      obtain ⟨_, nn, _⟩ := I1.nolimit
      obtain ⟨o', es, ep, ho, hd, _⟩ := nn
      rw [z, hPh] at ho; cases ho; cases hd
    have stlt : cStatics < s1.heap.objs.size := by
      obtain ⟨_, nn, _⟩ := I1.nolimit
      exact nn.lt
    have old3 : ∀ b u, b ≠ P → s1.heap.get? b = some u → h3.get? b = some u := fun b u hb e => hx b u hb (hk2 b u e)
    refine wpAny_builtinsFor (m := X.mg) (by rw [I1.ok.glob]; exact (I2.mod.glob.keeps I2.bk).extBut hx TB.gP) b1 b2' (old3 _ _ b4 (I1.bk _ _ b5)) b6 b7 b8 ?_
    have Wk := fun (A' : Around) (hA : A'.handled = none) => (WalksT.zip2 (prog := X.prog) (w := X.w) hA (s1.heap.objs.size + 4) (s1.heap.objs.size + 2) (s1.heap.objs.size + 3) s1.heap.objs.size (s1.heap.objs.size + 1) l1 l2 (PySem.W.ktu_apart s1.heap.objs.size l1 l2 lt1 lt2) its1.toArray its2.toArray).toU
    have big : ∀ b, s1.heap.objs.size ≤ b → b ≠ P := fun b hb z => by rw [z] at hb; exact absurd ltP (Nat.not_lt.mpr hb)
    have hn : min its1.toArray.size its2.toArray.size = ks.length := by
      rw [← hlen]; simp [zipL, vd1.len, vd2.len]
    refine ⟨s1.heap.objs.size + 4, _, _, _, _, _, _, (fun _ => true), (fun i y => ∃ kk, ks[i]? = some kk ∧ y = .bool kk), rfl, Wk, (fun i vals hv => by obtain ⟨x, y, _, _, e⟩ := hv; exact ⟨x, y, e⟩), ?_, ?_, I2.nolimit.extBut hx stP, ?_, ?_, ?_⟩
    · refine (Wk X.A hr.hd).frame _ _ _ ⟨hzz, hTI, ⟨_, _, hTO⟩, hi1, hi2, Heap.IsList.at il1 fun o e => hk2 _ o e, Heap.IsList.at il2 fun o e => hk2 _ o e⟩ fun b hb u e => hx b u (fun z => ?_) e
      simp only [List.mem_cons, List.not_mem_nil, or_false] at hb
      rcases hb with y | y | y | y | y | y | y
      · exact big b (by rw [y]; omega) z
      · exact big b (by rw [y]; omega) z
      · exact big b (by rw [y]; omega) z
      · exact big b (by rw [y]; exact Nat.le_refl _) z
      · exact big b (by rw [y]; omega) z
      · exact ne1 (y.symm.trans z)
      · exact ne2 (y.symm.trans z)
    · intro b hb
      show b < h3.objs.size
      have sz : ∀ n : Nat, n < 5 → (s1.heap.objs.size + n : Nat) < h3.objs.size := fun n hn => by omega
      simp only [List.mem_cons, List.not_mem_nil, or_false] at hb
      rcases hb with y | y | y | y | y | y | y
      · rw [y]; exact sz 4 (by decide)
      · rw [y]; exact sz 2 (by decide)
      · rw [y]; exact sz 3 (by decide)
      · rw [y]; exact sz 0 (by decide)
      · rw [y]; exact sz 1 (by decide)
      · rw [y]; exact Nat.lt_trans lt1 (sz 0 (by decide))
      · rw [y]; exact Nat.lt_trans lt2 (sz 0 (by decide))
    · intro z
      simp only [List.mem_cons, List.not_mem_nil, or_false] at z
      rcases z with y | y | y | y
      · rw [y] at stlt; exact absurd stlt (Nat.not_lt.mpr (Nat.le_add_right _ _))
      · rw [y] at stlt; exact absurd stlt (Nat.not_lt.mpr (Nat.le_add_right _ _))
      · rw [y] at stlt; exact absurd stlt (Nat.lt_irrefl _)
      · rw [y] at stlt; exact absurd stlt (Nat.not_lt.mpr (Nat.le_add_right _ _))
    · intro href hhr
      have hm4 : ∀ b o, b ≠ P → s1.heap.get? b = some o → b ∈ List.range h3.objs.size ∧ b ∉ [s1.heap.objs.size + 4, s1.heap.objs.size + 3, s1.heap.objs.size, s1.heap.objs.size + 1] ∧ href.get? b = some o := fun b o hb e => by
        have l := Heap.lt_size e
        refine ⟨List.mem_range.mpr (Heap.lt_size (old3 b o hb e)), fun z => ?_, hhr b o (old3 b o hb e)⟩
        simp only [List.mem_cons, List.not_mem_nil, or_false] at z
        rcases z with y | y | y | y
        · rw [y] at l; exact absurd l (Nat.not_lt.mpr (Nat.le_add_right _ _))
        · rw [y] at l; exact absurd l (Nat.not_lt.mpr (Nat.le_add_right _ _))
        · rw [y] at l; exact absurd l (Nat.lt_irrefl _)
        · rw [y] at l; exact absurd l (Nat.not_lt.mpr (Nat.le_add_right _ _))
      refine ⟨fun A' E' i va vb s₂ m₂ hA _ _ hp hns hma hmb hk => ?_, fun A' E' i va vb s₂ m₂ hA hD hU hp hpz hns hma hmb hk => ?_⟩
      · simp only [List.forIn_nil]
        exact wpAny_pure ⟨rfl, kp_refl _⟩
      · obtain ⟨x, y, hx1, hy1, exy⟩ := hp
        obtain ⟨ex, ey⟩ : va = x ∧ vb = y := by simpa using congrArg Array.toList exy
        subst ex ey
        have keepTo : ∀ b o, b ≠ P → s1.heap.get? b = some o → s₂.heap.get? b = some o := fun b o hb e => hk b (hm4 b o hb e).1 (hm4 b o hb e).2.1 o (hm4 b o hb e).2.2
        obtain ⟨da, hda, vda⟩ := vd1.getU (i := i) (by simpa using hx1)
        obtain ⟨db, hdb, vdb⟩ := vd2.getU (i := i) (by simpa using hy1)
        have hzi : (zipL xs ys)[i]? = some (.tuple [da, db]) := by
          unfold zipL; rw [List.getElem?_zipWith, hda, hdb]
        obtain ⟨en, kk, g1, g2, g3⟩ := hget i _ hzi
        have hen : en = ((wipeE env [ia, ib]).set ia (some (.v (.fr da)))).set ib (some (.v (.fr db))) := by
          have : tupG 2 (consG (setN ia) (consG (setN ib) nilG)) (.tuple [da, db]) (wipeE env [ia, ib]) = some (((wipeE env [ia, ib]).set ia (some (.v (.fr da)))).set ib (some (.v (.fr db)))) := rfl
          rw [this] at g1; exact (Option.some.inj g1).symm
        have rm : Room k A' := ⟨hA, by have := hr.dp; omega, by have := hr.un; omega⟩
        have cls : ∀ {v : Value} {d : D}, VD s1.heap v d → VD s₂.heap v d := fun v => VD.keepC (fun b o hc e => keepTo b o (fun z => by rw [z, hPh] at e; cases e; exact hc rfl) e) _ _ v
        have hl : (wipeE env [ia, ib]).length = env.length := by simp
        refine wpAny_mono (hel (genEnv scope (cloFrom X.env.cells scope.names []) h3.objs.size code builtinsNs X.env) rfl (show X.env.globals = mainGlobals from I1.ok.glob) A' s₂ E' en (.bool kk) rm ⟨fun b o e => keepTo b o (fun z => ?_) (I1.bk b o e), m₂, hns, fun j x d h4 h5 => ?_⟩ g2) (fun y s3 ⟨q1, q2⟩ => ⟨⟨kk, g3, ?_⟩, q2⟩) fun _ _ z => z
        · have := (I1.bs b o e).2
          rw [z, hPs] at this; cases this
        · rw [hen] at h5
          dsimp only at h4
          by_cases ja : j = ia
          · subst ja
            rw [if_pos rfl] at h4; cases h4
            rw [List.getElem?_set_ne (Ne.symm iab), List.getElem?_set_self (by omega)] at h5
            cases h5
            exact ⟨va, hma, cls vda⟩
          · rw [if_neg ja] at h4
            by_cases jb : j = ib
            · subst jb
              rw [if_pos rfl] at h4; cases h4
              rw [List.getElem?_set_self (by rw [List.length_set]; omega)] at h5
              cases h5
              exact ⟨vb, hmb, cls vdb⟩
            · rw [if_neg jb] at h4; cases h4
        · cases q1; rfl
    · intro g h5 tk5 gs hgb hag hs5 hk5 W5 hat
      simp only [pass_all, List.length_range, hn] at W5
      rw [hn] at hat
      refine hQ F1 H1 g _ a ⟨_, _, _, _, _, W5.in4_1, hat, ?_, fun s' hm => ?_⟩
      · intro j y sj Qj Ej hy hQj
        obtain ⟨i, hij, kk, hkk, rfl⟩ := hy
        obtain ⟨hj, ej⟩ := List.getElem?_eq_some_iff.mp hij
        rw [List.getElem_range] at ej
        subst ej
        refine wpAny_truthy_bool ?_
        have hQ2 : Qj (ks.getD j false) sj := hQj
        rw [List.getD_eq_getElem?_getD, hkk] at hQ2
        exact hQ2
      · have nwr : ∀ b u, s1.heap.get? b = some u → b ∉ h3.objs.size :: [s1.heap.objs.size + 4, s1.heap.objs.size + 3, s1.heap.objs.size, s1.heap.objs.size + 1] := fun b u e hb => by
          have l := Heap.lt_size e
          have sz : s1.heap.objs.size ≤ h3.objs.size := by omega
          simp only [List.mem_cons, List.not_mem_nil, or_false] at hb
          rcases hb with y | y | y | y | y
          · rw [y] at l; exact absurd l (Nat.not_lt.mpr sz)
          · rw [y] at l; exact absurd l (Nat.not_lt.mpr (Nat.le_add_right _ _))
          · rw [y] at l; exact absurd l (Nat.not_lt.mpr (Nat.le_add_right _ _))
          · rw [y] at l; exact absurd l (Nat.lt_irrefl _)
          · rw [y] at l; exact absurd l (Nat.not_lt.mpr (Nat.le_add_right _ _))
        have J := GxR.inv_tab (more := more) (h' := s'.heap) (g' := s'.gens) (d' := s'.drawn) (t' := s'.toks) I1 hPs (fun b u hb e => hm.heap b u (nwr b u e) (hk5 b u (old3 b u hb e))) (hm.heap P _ (nwr P _ hPh) (hk5 P _ hP3)) (AllBare.movedS (I1.bare.push hgb) hm)
        rw [GxR.sh_eta s1 s' hm.os] at J
        have gr := Same.grow hPs ht3
        exact ⟨_, ⟨Same.refl _, a.fh.trans gr, gr, fun x o e n => by rw [n] at e; cases e⟩, J⟩
  cases hf : codeAmong gpos ps.toList with
  | none =>
    refine wpAny_genexprCodeX hcode (cdh.code hP2 ht) (cdh.tab hP2) hf fun c' h' tk hx hge hlt hco' _ htab' _ => ?_
    obtain ⟨_, _, _, _, _, _, _, _, _, _, _, _, _, _, _, _, _, _, _, htr, _⟩ := hco'
    exact goOn _ h' tk _ hx (Nat.le_trans hge (Nat.le_of_lt hlt)) htab'.2 htr
  | some cv =>
    refine wpAny_genexprCode_hit hcode (cdh.code hP2 ht) hf ?_
    exact goOn cv h2 s1.toks #[] (Heap.ExtBut.refl _ _) (Nat.le_refl _) (by rw [Array.append_empty]; exact hP2) (by rw [Array.append_empty]; exact ht)
/-- any(.. for a, b in zip(..)), all(..) -/
theorem de_gexZ {all : Bool} {c P : Addr} {e1 e2 elt : Expr} {xa xb : Str} {p pa pb pt zp zpos gpos pos : Pos} {kt ia ib : Nat} {scope : Scope} {fs : En → R (List D)} {fe : En → R D}
    (hr : Room (k + 1) X.A) (TB : GxR.TabB X.base X.mg c P) (hcode : X.env.code = .ref c) (hP : P ∈ Tabs.T) (S : GenS2 X.env scope xa xb) (ha : DA X W [.f, .f] [e1, e2] fs) (hgz : Gl X "zip") (hzm : X.mg "zip" = none) (hg : Gl X (if all then "all" else "any")) (hm : X.mg (if all then "all" else "any") = none)
    (hel : ∀ cenv : Env, cenv.scope = scope → cenv.globals = mainGlobals → QDE ⟨X.prog, X.w, X.K, X.mg, X.base, cenv, fun i => if i = ia then some xa else if i = ib then some xb else none⟩ k elt fe)
    (iab : ia ≠ ib := by decide) (hla : ia < X.N.length := by exact Nat.le_of_ble_eq_true rfl) (hlb : ib < X.N.length := by exact Nat.le_of_ble_eq_true rfl)
    (hs : ∀ v, genFold (.Call (.Name "zip" zp) [e1, e2] [] zpos) X.env v = pure v := by intro _; rfl)
    (he : starEach [.GeneratorExp elt [⟨.Tuple [.Name xa pa, .Name xb pb] kt pt, .Call (.Name "zip" zp) [e1, e2] [] zpos, [], 0⟩] scope gpos] X.env = (false, eval (.GeneratorExp elt [⟨.Tuple [.Name xa pa, .Name xb pb] kt pt, .Call (.Name "zip" zp) [e1, e2] [] zpos, [], 0⟩] scope gpos) X.env) :: starEach [] X.env := by rfl)
    (hst : starEach [e1, e2] X.env = (false, eval e1 X.env) :: starEach [e2] X.env := by rfl) (hpl : (backTo zpos (starEach [e2] X.env)).any (·.1) = false := by rfl) :
    DE X W m (.Call (.Name (if all then "all" else "any") p) [.GeneratorExp elt [⟨.Tuple [.Name xa pa, .Name xb pb] kt pt, .Call (.Name "zip" zp) [e1, e2] [] zpos, [], 0⟩] scope gpos] [] pos)
      (gexR [ia, ib] (cal fs zip2) (tupG 2 (consG (setN ia) (consG (setN ib) nilG))) fe (if all then allK else anyK)) := by
  refine ⟨fun pins s σ H Q I ⟨B, F, env, r, q⟩ => ?_⟩
  have hlen : env.length = X.N.length := by
    obtain ⟨as, h1, _, _⟩ := r.sl
    rw [← h1.len, I.len]
  unfold gexR cal at q
  cases e0 : fs env with
  | no => rw [e0] at q; exact q.elim
  | er cc => rw [e0] at q; exact q.elim
  | ok ds =>
    rw [e0, show (R.ok ds).bind zip2 = zip2 ds from rfl] at q
    cases ez : zip2 ds with
    | no => rw [ez] at q; exact q.elim
    | er cc => rw [ez] at q; exact q.elim
    | ok zs =>
      rw [ez] at q
      dsimp only at q
      cases ek : anyF (tupG 2 (consG (setN ia) (consG (setN ib) nilG))) fe (wipeE env [ia, ib]) zs with
      | no => rw [ek] at q; exact q.elim
      | er cc => rw [ek] at q; exact q.elim
      | ok ks =>
        rw [ek] at q
        have q : PoE X.K (ecOf X.mg) W m F H σ Q (.ok (.bool ((if all then allK else anyK) ks))) := q
        cases all with
        | false =>
          refine wpAny_Call_Name_kw (ld_blt I hg hm boot_any ?_)
          refine PyProof.Rows.callWith_builtin1 ?_ he (by rfl)
          rw [he]
          refine Calls.spliced_cons (gen_zip hr TB hcode hP S ha hgz hzm iab (by omega) (by omega) hel hs I r e0 ez ek hst hpl fun F1 H1 g s5 a ⟨fp, wr, G, Fv, Sx, Wk, hst, htr, hI⟩ => ?_)
          refine Calls.spliced_nil ?_
          refine call_any_walkS (Wk.self 0 _ _ _ hst ⟨g, fp, wr, G, _, Fv, Sx, _, rfl, Wk, hst, htr, fun s' hmv => ?_⟩)
          obtain ⟨H2, a2, J⟩ := hI s' hmv
          refine ⟨.bl _, H2, J, rfl, ?_⟩
          rw [any_range]
          exact q _ _ _ (a.trans a2) (Rp.bl _)
        | true =>
          refine wpAny_Call_Name_kw (ld_blt I hg hm (by decide +kernel : bootBuiltins "all" = some (.builtin "all")) ?_)
          refine PyProof.Rows.callWith_builtin1 ?_ he (by rfl)
          rw [he]
          refine Calls.spliced_cons (gen_zip hr TB hcode hP S ha hgz hzm iab (by omega) (by omega) hel hs I r e0 ez ek hst hpl fun F1 H1 g s5 a ⟨fp, wr, G, Fv, Sx, Wk, hst, htr, hI⟩ => ?_)
          refine Calls.spliced_nil ?_
          refine call_all_walkS (Wk.self 0 _ _ _ hst ⟨g, fp, wr, G, _, Fv, Sx, _, rfl, Wk, hst, htr, fun s' hmv => ?_⟩)
          obtain ⟨H2, a2, J⟩ := hI s' hmv
          refine ⟨.bl _, H2, J, rfl, ?_⟩
          rw [all_range]
          exact q _ _ _ (a.trans a2) (Rp.bl _)
end
end DL
namespace DL
open PySem PySem.Spec PyProof.Rows L2
variable [Tabs]
/-- a def whose code object is known -/
structure FdC (K : PySem.W.Frag) (mg : Str → Option Value) (x : Str) (st : Stmt) (ps : List Str) (c : Addr) : Prop where
  ex : ∃ f fd, Fun K x x st f fd ∧ mg x = some (.ref f) ∧ Binds K fd ps [] ∧ fd.code = .ref c
theorem FdC.fd {K : PySem.W.Frag} {mg : Str → Option Value} {x : Str} {st : Stmt} {ps : List Str} {c : Addr} (d : FdC K mg x st ps c) : Fd K mg x st ps := let ⟨f, fd, h1, h2, h3, _⟩ := d.ex; ⟨f, fd, h1, h2, h3⟩
theorem fnG_mkC {P : Program} {w : World} {K : PySem.W.Frag} {mg : Str → Option Value} {base : Heap} {y qual : Str} {st : Stmt} {f c : Addr} {fd : FuncData} {N ps : List Str} {k : Nat} {T : En → SR} (Fn : Fun K y qual st f fd) (hc : fd.code = .ref c) (S : FnScope N ps (defScope st))
    (hT : ∀ (f0 : Addr) (A : Around) (outer : List Env) (s : Shared) (H : Hp) (E : XK),
      Cxt (cxOf (L2.CX P w) P w K mg base N qual (defScope st) f0 (.ref c) A outer s H E) (fun cls d _ H' => E cls d H') k → DSs (cxOf (L2.CX P w) P w K mg base N qual (defScope st) f0 (.ref c) A outer s H E) (fun cls d _ H' => E cls d H') (defBody st) T) :
    FnG P w K mg base (k + 1) f fd ps (bodyR N ps.length T) := by
  obtain ⟨oc, od, kV, doc, pm, an, cdv, ct, osl, rfl, lk, hcd⟩ := Fn.ex
  have hc : cdv = .ref c := hc
  subst hc
  refine ⟨fun A outer s H us vs Q E hr hgd e0 hb rv hp => ?_⟩
  obtain ⟨F, ds, ⟨hlen, htg⟩, hF, hd, hq⟩ := hp
  have inH : K.In s.heap := e0.mod.kin.keeps fun b o e => (e0.bs b o e).1
  have noL : s.heap.NoLimit := e0.mod.nolimit.keeps fun b o e => (e0.bs b o e).1
  have kinds : ∀ z ∈ ps.zip us, (defScope st).names.lookup z.1 = some .local ∨ ((defScope st).names.lookup z.1 = some .cell ∧ ((cellsFrom (s.heap.objs.size + 1) (defScope st).names []).lookup z.1).isSome = true) := by
    rintro ⟨n, u⟩ hz
    exact (S.par n (List.of_mem_zip hz).1).imp id fun q => ⟨q, PySem.W.cellsFrom_some _ _ _ (.inl q)⟩
  refine codeAny_call_function hr.depth (inH _ _ lk) rfl S.co S.gen rfl (PySem.W.codeRec_of inH hcd) (hb _ _ _ _ ?_)
  refine wpAny_newFunctionEnv_cells S.kind kinds fun env1 eq1 s1 made => ?_
  subst eq1
  refine ⟨noL.keeps made.toInCall.keep, codeAny_func ?_⟩
  have I : Inv (cxOf (L2.CX P w) P w K mg base N qual (defScope st) f (.ref c) A outer s H E) [] (L2.start N vs) H s1 := inv_start S hr.hd e0 hlen rv made
  have cx : Cxt (cxOf (L2.CX P w) P w K mg base N qual (defScope st) f (.ref c) A outer s H E) (fun cls d _ H' => E cls d H') k :=
    ⟨rfl, S.nd, takes_of rfl rfl rfl rfl, hr.deeper _, guards_deeper hgd, passes_of rfl⟩
  have body := hT f A outer s H E cx
  have rel0 : Rel K H F H (init N ds) (L2.start N vs) := by
    refine ⟨⟨Same.refl _, htg⟩, hF, [], ?_, .nil, fun a ha => by cases ha⟩
    unfold init L2.start
    rw [hd.len]
    exact owEn_init hd
  have run := body.run [] s1 (L2.start N vs) H { nx := fun _ H' => Q .non H', rt := Q } I ⟨H, F, init N ds, rel0, ?_⟩
  · refine wpAny_mono run (fun fl s2 hs => ?_) fun u s2 hs => hs
    cases fl with
    | ret u =>
      obtain ⟨v, σ2, H2, J, rvu, qv⟩ := hs
      exact ⟨v, H2, J.os, J.bare, J.base, J.hok, rvu, qv⟩
    | next =>
      obtain ⟨σ2, H2, J, qv⟩ := hs
      exact ⟨.non, H2, J.os, J.bare, J.base, J.hok, rfl, qv⟩
    | brk => obtain ⟨_, _, _, qv⟩ := hs; exact qv.elim
    | cont => obtain ⟨_, _, _, qv⟩ := hs; exact qv.elim
  · have hl2 : ds.length = ps.length := hd.len.symm.trans hlen
    unfold bodyR at hq
    rw [if_pos hl2] at hq
    cases eT : T (init N ds) with
    | rt s0 => rw [eT] at hq; exact fun v H' F' as a b1 b2 o n fr => hq v H' F' as ⟨a.ff, b2, b1, fun x o e n => a.nw x o e n⟩ o n fr
    | nx e1 => rw [eT] at hq; exact fun σ2 H' F' a r => hq .non H' F' [] ⟨a.ff, r.fh, r.bh, a.nw⟩ (.fr .non) .nil fun _ z => by cases z
    | er c e1 => rw [eT] at hq; exact fun σ2 H' F' a r => hq H' F' ⟨a.ff, r.fh, r.bh, a.nw⟩
    | bk e1 => rw [eT] at hq; exact hq.elim
    | ct e1 => rw [eT] at hq; exact hq.elim
    | no => rw [eT] at hq; exact hq.elim
theorem cal_mkC {P : Program} {w : World} {K : PySem.W.Frag} {mg : Str → Option Value} {base : Heap} {x : Str} {st : Stmt} {N ps : List Str} {k : Nat} {c : Addr} {T : En → SR} (d : FdC K mg x st ps c) (S : FnScope N ps (defScope st))
    (hT : ∀ (f0 : Addr) (A : Around) (outer : List Env) (s : Shared) (H : Hp) (E : XK),
      Cxt (cxOf (L2.CX P w) P w K mg base N x (defScope st) f0 (.ref c) A outer s H E) (fun cls d _ H' => E cls d H') k → DSs (cxOf (L2.CX P w) P w K mg base N x (defScope st) f0 (.ref c) A outer s H E) (fun cls d _ H' => E cls d H') (defBody st) T) :
    Cal P w K mg base (k + 1) x ps (bodyR N ps.length T) := by
  obtain ⟨f, fd, h1, h2, h3, h4⟩ := d.ex
  have h1' := h1
  obtain ⟨oc, od, kV, doc, pm, an, cdv, ct, osl, _, lk, _⟩ := h1'.ex
  exact ⟨f, fd, fnG_mkC h1 h4 S hT, h2, h1.kp, h3, oc, od, osl, lk⟩
theorem genS2_of {env : Env} {scope : Scope} {xa xb : Str} (k : scope.kind = .function) (c : scope.isCoroutine = false) (n : (scope.names.all fun y => match y.2 with | .cell => false | .free => false | _ => true) = true)
    (d : scope.names.lookup (".0" : Str) = some NameKind.local) (la : scope.names.lookup xa = some .local) (lb : scope.names.lookup xb = some .local) (ab : xa ≠ xb) : GenS2 env scope xa xb := by
  have h := List.all_eq_true.mp n
  exact ⟨k, c, fun y hy z => (by have := h y hy; rw [z] at this; cases this), d, la, lb, fun y hy z => (by have := h y hy; rw [z] at this; cases this), ab⟩
theorem top_at {P : Program} {w : World} {K : PySem.W.Frag} {mg : Str → Option Value} {base : Heap} {k : Nat} {x : Str} {st : Stmt} {ps : List Str} {g : List D → R S} {fa f : Addr} {fd : FuncData} (hfa : mg x = some (.ref fa)) (h1 : Fun K x x st f fd) (h2 : mg x = some (.ref f))
    (h : Cal P w K mg base k x ps g) : FnG P w K mg base k fa fd ps g := by
  obtain ⟨f', fd', q1, q2, _, _, oc', od', osl', lk'⟩ := h.ex
  obtain ⟨oc, od, kV, doc, pm, an, cdv, ct, osl, _, lk, _⟩ := h1.ex
  rw [h2] at q2 hfa
  cases q2
  cases hfa
  rw [lk] at lk'
  cases lk'
  exact q1
end DL
namespace DL
open PySem PySem.Spec PyProof.Rows L2
theorem tabIn_of {K : PySem.W.Frag} {x : Str} {f c P : Addr} {oc oc' : Value} {od od' : Option Addr} {fd : FuncData} {sl sl' : Array (Option Value)} {vs : Array Value} (h1 : PySem.W.nsIn K mainGlobals x = some (some (.ref f))) (h2 : K.lookup f = some ⟨oc, od, .func fd, sl⟩) (h3 : fd.code = .ref c)
    (h4 : K.lookup c = some ⟨oc', od', .fields vs, sl'⟩) (h5 : vs[11]? = some (.ref P)) : PySem.W.tabIn K x = some (c, P) := by
  unfold PySem.W.tabIn
  rw [h1]
  dsimp only
  rw [h2]
  dsimp only
  rw [h3]
  dsimp only
  rw [h4]
  dsimp only
  rw [h5]
theorem noTab_of {K : PySem.W.Frag} {h : Heap} {P : Addr} (X : K.In h) (n : PySem.W.noTabs K = true) (e : h.get? P = some (PySem.W.tabObj #[])) : K.lookup P = none := by
  cases q : K.lookup P with
  | none => rfl
  | some o =>
    have e2 := X P o q
    rw [e] at e2
    have h2 := List.all_eq_true.mp n (P, o) (PySem.W.mem_of_lookupK q)
    cases e2
    exact absurd (show false = true from h2) Bool.false_ne_true
theorem all_nil {A : Type} {p : A → Prop} : ∀ x ∈ ([] : List A), p x := fun _ h => nomatch h
theorem all_cons {A : Type} {p : A → Prop} {a : A} {l : List A} (h : p a) (t : ∀ x ∈ l, p x) : ∀ x ∈ a :: l, p x := fun x hx => by
  rcases List.mem_cons.mp hx with e | e
  · rw [e]; exact h
  · exact t x e
end DL
namespace DL
open PySem PySem.Spec PyProof.Rows L2
variable [Tabs]
/-- a global that is a string -/
def GS (mg : Str → Option Value) (x : Str) (n : Str) : Prop := ∃ t, mg x = some (.str n t)
theorem de_globS {X : Cx} {W : WX} {m : Md} {pos : Pos} {x n : Str} (g : GS X.mg x n) (hg : Gl X x) (hdb : (x == ("__debug__" : Str)) = false := by decide) : DE X W m (.Name x pos) (fun _ => .ok (.str n)) := by
  obtain ⟨t, e⟩ := g
  exact de_glob (v := .str n) hg e ⟨t, rfl⟩ (fun F => .str n) hdb
end DL
namespace DL
open PySem PySem.Spec PyProof.Rows L2
variable [Tabs]
/-! ### a def that is handed a fresh owned first argument, and may change it -/
def less (H : Hp) (as : List Addr) : Hp := fun a => if a ∈ as then none else H a
theorem less_in {H : Hp} {as : List Addr} {a : Addr} (h : a ∈ as) : less H as a = none := if_pos h
theorem less_out {H : Hp} {as : List Addr} {a : Addr} (h : a ∉ as) : less H as a = H a := if_neg h
theorem Same.lessH {H : Hp} {as : List Addr} : Same (less H as) H := .of fun b o e => by
  by_cases hb : b ∈ as
  · rw [less_in hb] at e; cases e
  · rw [less_out hb] at e; exact e
theorem Same.toLess {H0 H : Hp} {as : List Addr} (s : Same H0 H) (f : ∀ a ∈ as, H0 a = none) : Same H0 (less H as) := ⟨fun b o e n => by
  rw [less_out fun z => by rw [f b z] at e; cases e]; exact s.k b o e n, fun b ps e => by
  obtain ⟨m, h1, h2⟩ := s.t b ps e
  exact ⟨m, by rw [less_out fun z => by rw [f b z] at e; cases e]; exact h1, h2⟩⟩
/-- the promise -/
def PrO (K : PySem.W.Frag) (mg : Str → Option Value) (n : Nat) (g : S → List D → R S) : Sp := fun vs H Q E => ∃ F s ds as v0 vs', (vs.length = n ∧ Tg H ∧ vs = v0 :: vs') ∧ Same F H ∧ Ow K F H v0 s as ∧ as.Nodup ∧ DpAll K F vs' ds ∧ match g s ds with
  | .ok s => ∀ v H' F' bs, After F (less H as) F' H' → Ow K F' H' v s bs → bs.Nodup → (∀ a ∈ bs, less H as a = none) → Q v H'
  | .er c => ∀ H' F', After F (less H as) F' H' → E (ecOf mg c) none H'
  | .no => False
structure FnO (P : Program) (w : World) (K : PySem.W.Frag) (mg : Str → Option Value) (base : Heap) (k : Nat) (f : Addr) (fd : FuncData) (ps : List Str) (g : S → List D → R S) : Prop where
  run : ∀ (A : Around) (outer : List Env) (s : Shared) (H : Hp) (us : List Value) (vs : List V) (Q : VK) (E : XK), Room k A → A.guards = some [] → Env0 P w K mg base A outer s H →
    BindsTo s fd ⟨us, []⟩ (ps.zip us) → Vals vs us → PrO K mg ps.length g vs H Q E → codeAny (model P w) A (.call (.ref f) ⟨us, []⟩) (CR (L2.CX P w) outer P w H s Q E) s
/-- an owned first argument, then data -/
def calO (f0 : En → R S) (fs : En → R (List D)) (g : S → List D → R S) : En → R S := fun env => (f0 env).bind fun s => (fs env).bind fun ds => g s ds
section
variable {X : Cx} {W : WX} {j k : Nat} {f : Addr} {fd : FuncData} {ps : List Str} {g : S → List D → R S} {x : Str} {p pos : Pos} {e : Expr} {es : List Expr} {f0 : En → R S} {fs : En → R (List D)} {ms : List Md}
theorem do_callO (G : FnO X.prog X.w X.K X.mg X.base j f fd ps g) (cx : Cxt X W k) (hk : j ≤ k) (hg : Gl X x) (hm : X.mg x = some (.ref f)) (kp : PySem.W.keepIn X.K (.ref f) = true) (hb : Binds X.K fd ps []) (h0 : DO X W e f0) (ha : DA X W ms es fs) (hms : allf ms = true)
    (hn : ∀ ds env, fs env = .ok ds → ds.length + 1 = ps.length) (hdb : (x == ("__debug__" : Str)) = false := by decide) (he : starEach (e :: es) X.env = (false, eval e X.env) :: starEach es X.env := by rfl) (hpl : (backTo pos (starEach es X.env)).any (·.1) = false := by rfl) :
    DO X W (.Call (.Name x p) (e :: es) [] pos) (calO f0 fs g) := by
  refine ⟨fun pins s σ H Q I ⟨B, F, env, r, q⟩ => ?_⟩
  refine wpAny_Call_Name_kw (ld_glob I hg hm ?_ hdb)
  have arg : tO X.K (ecOf X.mg) W f0 σ H (fun v H1 => tA X.K (ecOf X.mg) W ms fs σ H1 (fun vs H2 => (v :: vs).length = ps.length ∧ PrO X.K X.mg ps.length g (v :: vs) H2 Q (WE W σ))) := by
    refine ⟨B, F, env, r, ?_⟩
    unfold calO at q
    cases e0 : f0 env with
    | er c => rw [e0] at q; exact q
    | no => rw [e0] at q; exact q
    | ok s0 =>
      rw [e0] at q
      intro v H1 F1 as a o n fr
      refine ⟨B, F1, env, r.after a, ?_⟩
      cases ef : fs env with
      | er c => rw [ef] at q; exact fun H2 F2 a2 => q H2 F2 (a.trans a2)
      | no => rw [ef] at q; exact q
      | ok ds =>
        rw [ef] at q
        intro vs H2 F2 a2 rl
        have dp := rl.fs (allf_of hms)
        have ln : (v :: vs).length = ps.length := by rw [List.length_cons, dp.len]; exact hn ds env ef
        have o2 : Ow X.K F2 H2 v s0 as := o.mono a2.ff _ _ _ fun b hb => a2.keepO (o.at _ _ _ b hb)
        refine ⟨ln, F2, s0, ds, as, v, vs, ⟨ln, (r.bh.trans (a.hh.trans a2.hh)).tgH, rfl⟩, a2.fh, o2, n, dp, ?_⟩
        have q : PoO X.K (ecOf X.mg) W F H σ Q (g s0 ds) := q
        have af : ∀ {F3 H3 : Hp}, After F2 (less H2 as) F3 H3 → After F H F3 H3 := fun {F3 H3} a3 => ⟨(a.ff.trans a2.ff).trans a3.ff, a3.fh, ((a.hh.trans a2.hh).toLess fr).trans a3.hh, fun y oy e3 ny => by
          cases q2 : F2 y with
          | some u => exact (a.trans a2).nw y u q2 ny
          | none =>
            have := a3.nw y oy e3 q2
            by_cases hy : y ∈ as
            · exact fr y hy
            · rw [less_out hy] at this; exact (a.hh.trans a2.hh).free this⟩
        cases eg : g s0 ds with
        | no => rw [eg] at q; exact q
        | er c => rw [eg] at q; exact fun H3 F3 a3 => q H3 F3 (af a3)
        | ok so =>
          rw [eg] at q
          exact fun v H3 F3 bs a3 o3 n3 fr3 => q v H3 F3 bs (af a3) o3 n3 fun b hb => by
            by_cases hy : b ∈ as
            · exact fr b hy
            · have := fr3 b hb
              rw [less_out hy] at this; exact (a.hh.trans a2.hh).free this
  refine PySem.W.callWith_K (h₀ := X.base) I.ok.mod.kin kp (thn ((pa_cons h0 ha he).run pos pins s σ H (fun vs H2 => vs.length = ps.length ∧ PrO X.K X.mg ps.length g vs H2 Q (WE W σ)) I arg) fun us s1 ⟨vs, H1, I1, rv, hlen, hp⟩ => ⟨I1.kIn, ?_⟩) he hpl
  have hus : us.length = ps.length := rv.length.symm.trans hlen
  have bb := hb s1 us I1.kIn (by rw [List.append_nil]; exact hus)
  rw [List.append_nil] at bb
  refine wpAny_call (codeAny_mono (G.run X.A X.stack s1 H1 us vs Q (WE W σ) (cx.rm.mono hk) cx.gd I1.env0 bb rv hp) fun rr s2 hq => ?_)
  cases rr with
  | error u => exact passAt cx.tk σ pins H1 s1 u s2 I1 hq
  | ok fl => cases fl with
    | ret u => exact I1.after hq
    | next => exact hq.elim
    | brk => exact hq.elim
    | cont => exact hq.elim
end
def initO (N : List Str) (s : S) (ds : List D) : En := some (.v s) :: init N.tail ds
def bodyO (N : List Str) (n : Nat) (T : En → SR) : S → List D → R S := fun s ds => if ds.length + 1 = n then endR (T (initO N s ds)) else .no
section
variable {P : Program} {w : World} {K : PySem.W.Frag} {mg : Str → Option Value} {base : Heap}
theorem fnO_mk {y qual : Str} {st : Stmt} {f : Addr} {fd : FuncData} {N ps : List Str} {k : Nat} {T : En → SR} (Fn : Fun K y qual st f fd) (S : FnScope N ps (defScope st)) (hN : N.length = N.tail.length + 1)
    (hT : ∀ (f0 : Addr) (cdv : Value) (A : Around) (outer : List Env) (s : Shared) (H : Hp) (E : XK),
      Cxt (cxOf (L2.CX P w) P w K mg base N qual (defScope st) f0 cdv A outer s H E) (fun cls d _ H' => E cls d H') k → DSs (cxOf (L2.CX P w) P w K mg base N qual (defScope st) f0 cdv A outer s H E) (fun cls d _ H' => E cls d H') (defBody st) T) :
    FnO P w K mg base (k + 1) f fd ps (bodyO N ps.length T) := by
  obtain ⟨oc, od, kV, doc, pm, an, cdv, ct, osl, rfl, lk, hcd⟩ := Fn.ex
  refine ⟨fun A outer s H us vs Q E hr hgd e0 hb rv hp => ?_⟩
  obtain ⟨F, s0, ds, as, v0, vs', ⟨hlen, htg, rfl⟩, hF, ho, hnd, hd, hq⟩ := hp
  have inH : K.In s.heap := e0.mod.kin.keeps fun b o e => (e0.bs b o e).1
  have noL : s.heap.NoLimit := e0.mod.nolimit.keeps fun b o e => (e0.bs b o e).1
  have kinds : ∀ z ∈ ps.zip us, (defScope st).names.lookup z.1 = some .local ∨ ((defScope st).names.lookup z.1 = some .cell ∧ ((cellsFrom (s.heap.objs.size + 1) (defScope st).names []).lookup z.1).isSome = true) := by
    rintro ⟨n, u⟩ hz
    exact (S.par n (List.of_mem_zip hz).1).imp id fun q => ⟨q, PySem.W.cellsFrom_some _ _ _ (.inl q)⟩
  refine codeAny_call_function hr.depth (inH _ _ lk) rfl S.co S.gen rfl (PySem.W.codeRec_of inH hcd) (hb _ _ _ _ ?_)
  refine wpAny_newFunctionEnv_cells S.kind kinds fun env1 eq1 s1 made => ?_
  subst eq1
  refine ⟨noL.keeps made.toInCall.keep, codeAny_func ?_⟩
  have I : Inv (cxOf (L2.CX P w) P w K mg base N qual (defScope st) f cdv A outer s H E) [] (L2.start N (v0 :: vs')) H s1 := inv_start S hr.hd e0 hlen rv made
  have cx : Cxt (cxOf (L2.CX P w) P w K mg base N qual (defScope st) f cdv A outer s H E) (fun cls d _ H' => E cls d H') k :=
    ⟨rfl, S.nd, takes_of rfl rfl rfl rfl, hr.deeper _, guards_deeper hgd, passes_of rfl⟩
  have body := hT f cdv A outer s H E cx
  have hnT : ∀ b ∈ as, ∃ o, H b = some o ∧ noTb o = true := fun b hb => (ho.at _ _ _ b hb).2
  have rel0 : Rel K (less H as) F H (initO N s0 ds) (L2.start N (v0 :: vs')) := by
    refine ⟨⟨Same.lessH, fun P hP => ?_⟩, hF, as ++ [], ?_, by rw [List.append_nil]; exact hnd, fun a ha => by rw [List.append_nil] at ha; exact less_in ha⟩
    · obtain ⟨ps, h1, h2⟩ := htg P hP
      exact ⟨ps, by rw [less_out fun z => by obtain ⟨o, h3, h4⟩ := hnT P z; rw [h1] at h3; cases h3; cases h4]; exact h1, h2⟩
    · have e1 : L2.start N (v0 :: vs') = some v0 :: L2.start N.tail vs' := by
        unfold L2.start
        rw [List.map_cons, List.cons_append, List.length_cons, hN, Nat.add_sub_add_right]
      rw [e1]
      refine .so (.v ho) ?_
      unfold init L2.start
      rw [hd.len]
      exact owEn_init hd
  have run := body.run [] s1 (L2.start N (v0 :: vs')) H { nx := fun _ H' => Q .non H', rt := Q } I ⟨less H as, F, initO N s0 ds, rel0, ?_⟩
  · refine wpAny_mono run (fun fl s2 hs => ?_) fun u s2 hs => hs
    cases fl with
    | ret u =>
      obtain ⟨v, σ2, H2, J, rvu, qv⟩ := hs
      exact ⟨v, H2, J.os, J.bare, J.base, J.hok, rvu, qv⟩
    | next =>
      obtain ⟨σ2, H2, J, qv⟩ := hs
      exact ⟨.non, H2, J.os, J.bare, J.base, J.hok, rfl, qv⟩
    | brk => obtain ⟨_, _, _, qv⟩ := hs; exact qv.elim
    | cont => obtain ⟨_, _, _, qv⟩ := hs; exact qv.elim
  · have hl2 : ds.length + 1 = ps.length := by rw [← hd.len]; exact hlen
    unfold bodyO at hq
    rw [if_pos hl2] at hq
    cases eT : T (initO N s0 ds) with
    | rt s0 => rw [eT] at hq; exact fun v H' F' bs a b1 b2 o n fr => hq v H' F' bs ⟨a.ff, b2, b1, fun x o e n => a.nw x o e n⟩ o n fr
    | nx e1 => rw [eT] at hq; exact fun σ2 H' F' a r => hq .non H' F' [] ⟨a.ff, r.fh, r.bh, a.nw⟩ (.fr .non) .nil fun _ z => by cases z
    | er c e1 => rw [eT] at hq; exact fun σ2 H' F' a r => hq H' F' ⟨a.ff, r.fh, r.bh, a.nw⟩
    | bk e1 => rw [eT] at hq; exact hq.elim
    | ct e1 => rw [eT] at hq; exact hq.elim
    | no => rw [eT] at hq; exact hq.elim
end
structure CalO (P : Program) (w : World) (K : PySem.W.Frag) (mg : Str → Option Value) (base : Heap) (k : Nat) (x : Str) (ps : List Str) (g : S → List D → R S) : Prop where
  ex : ∃ f fd, FnO P w K mg base k f fd ps g ∧ mg x = some (.ref f) ∧ PySem.W.keepIn K (.ref f) = true ∧ Binds K fd ps []
theorem calO_mk {P : Program} {w : World} {K : PySem.W.Frag} {mg : Str → Option Value} {base : Heap} {x : Str} {st : Stmt} {N ps : List Str} {k : Nat} {T : En → SR} (d : Fd K mg x st ps) (S : FnScope N ps (defScope st)) (hN : N.length = N.tail.length + 1)
    (hT : ∀ (f0 : Addr) (cdv : Value) (A : Around) (outer : List Env) (s : Shared) (H : Hp) (E : XK),
      Cxt (cxOf (L2.CX P w) P w K mg base N x (defScope st) f0 cdv A outer s H E) (fun cls d _ H' => E cls d H') k → DSs (cxOf (L2.CX P w) P w K mg base N x (defScope st) f0 cdv A outer s H E) (fun cls d _ H' => E cls d H') (defBody st) T) :
    CalO P w K mg base (k + 1) x ps (bodyO N ps.length T) := by
  obtain ⟨f, fd, h1, h2, h3⟩ := d.ex
  exact ⟨f, fd, fnO_mk h1 S hN hT, h2, h1.kp, h3⟩
section
variable {X : Cx} {W : WX} {j k : Nat} {ps : List Str} {g : S → List D → R S} {x : Str} {p pos : Pos} {e : Expr} {es : List Expr} {f0 : En → R S} {fs : En → R (List D)} {ms : List Md}
theorem do_calO (c : CalO X.prog X.w X.K X.mg X.base j x ps g) (cx : Cxt X W k) (hk : j ≤ k) (h0 : DO X W e f0) (ha : DA X W ms es fs) (hms : allf ms = true) (hn : ∀ ds env, fs env = .ok ds → ds.length + 1 = ps.length) (hg : Gl X x := by rfl) (hdb : (x == ("__debug__" : Str)) = false := by decide)
    (he : starEach (e :: es) X.env = (false, eval e X.env) :: starEach es X.env := by rfl) (hpl : (backTo pos (starEach es X.env)).any (·.1) = false := by rfl) : DO X W (.Call (.Name x p) (e :: es) [] pos) (calO f0 fs g) := by
  obtain ⟨f, fd, h1, h2, h3, h4⟩ := c.ex
  exact do_callO h1 cx hk hg h2 h3 h4 h0 ha hms hn hdb he hpl
end
end DL
namespace DL
open PySem PySem.Spec PyProof.Rows L2
variable [Tabs]
/-! ### lists and tuples of owned parts -/
section
variable (K : PySem.W.Frag) (ec : Str → Value) (W : WX)
def PoAO (F H : Hp) (σ : L2.St) (Q : List V → Hp → Prop) : R (List S) → Prop
  | .ok ss => ∀ vs H' F' as, After F H F' H' → OwAll K F' H' vs ss as → as.Nodup → (∀ a ∈ as, H a = none) → Q vs H'
  | .er c => ∀ H' F', After F H F' H' → W (ec c) none σ H'
  | .no => False
def tAO (f : En → R (List S)) : TA := fun σ H Q => ∃ B F env, Rel K B F H env σ ∧ PoAO K ec W F H σ Q (f env)
end
def DAO (X : Cx) (W : WX) (es : List Expr) (f : En → R (List S)) : Prop := PA X es (tAO X.K (ecOf X.mg) W f)
def nilO : En → R (List S) := fun _ => .ok []
def consO (f : En → R S) (fs : En → R (List S)) : En → R (List S) := fun env => (f env).bind fun s => (fs env).bind fun ss => .ok (s :: ss)
section
variable {X : Cx} {W : WX} {pos : Pos} {e : Expr} {es : List Expr} {f : En → R S} {fs : En → R (List S)}
theorem dso_nil : DAO X W [] nilO := pa_nil.wk fun σ H Q ⟨B, F, env, r, p⟩ => p [] H F [] (After.refl r.fh) .nil .nil fun _ z => by cases z
theorem dso_cons (h : DO X W e f) (t : DAO X W es fs) (hs : starEach (e :: es) X.env = (false, eval e X.env) :: starEach es X.env := by rfl) : DAO X W (e :: es) (consO f fs) :=
  (pa_cons h t hs).wk fun σ H Q ⟨B, F, env, r, p⟩ => ⟨B, F, env, r, by
    unfold consO at p
    cases e1 : f env with
    | er c => rw [e1] at p; exact p
    | no => rw [e1] at p; exact p
    | ok s =>
      rw [e1] at p
      intro v H1 F1 as a o n fr
      refine ⟨B, F1, env, r.after a, ?_⟩
      cases e2 : fs env with
      | er c => rw [e2] at p; exact fun H2 F2 a2 => p H2 F2 (a.trans a2)
      | no => rw [e2] at p; exact p
      | ok ss =>
        rw [e2] at p
        intro vs H2 F2 bs a2 oa n2 fr2
        refine p (v :: vs) H2 F2 (as ++ bs) (a.trans a2) (.cons (o.mono a2.ff _ _ _ fun b hb => a2.keepO (o.at _ _ _ b hb)) oa) (List.nodup_append.mpr ⟨n, n2, fun b hb b2 hb2 z => ?_⟩) fun b hb => ?_
        · obtain ⟨_, o', h1, _⟩ := o.at _ _ _ b hb
          rw [z, fr2 b2 hb2] at h1; cases h1
        · rcases List.mem_append.mp hb with z | z
          · exact fr b z
          · exact a.hh.free (fr2 b z)⟩
def lstO (fs : En → R (List S)) : En → R S := fun env => (fs env).bind fun ss => if ss.length ≤ 1000 then .ok (.ow ss) else .no
def tupO (fs : En → R (List S)) : En → R S := fun env => (fs env).bind fun ss => if ss.length ≤ 1000 then .ok (.tu ss) else .no
theorem do_lstO (h : DAO X W es fs) : DO X W (.List es pos) (lstO fs) :=
  (pe_lst h).wk fun σ H Q ⟨B, F, env, r, p⟩ => ⟨B, F, env, r, by
    unfold lstO at p
    cases e1 : fs env with
    | er c => rw [e1] at p; exact p
    | no => rw [e1] at p; exact p
    | ok ss =>
      rw [e1] at p
      simp only [R.bind] at p
      intro vs H1 F1 as a oa n fr
      split at p
      · rename_i hl
        refine ⟨by rw [oa.len]; exact le_line hl, fun q nq => p (.ref q) _ F1 (q :: as) (a.trans (After.newO a.fh nq)) (.ow (a.fh.free nq) upd_same (OwAll.mono (Same.refl _) _ _ _ oa fun b hb => ⟨(oa.at _ _ _ b hb).1, upd_ne fun z => ?_⟩)) (List.nodup_cons.mpr ⟨fun hm => ?_, n⟩) fun b hb => ?_⟩
        · obtain ⟨_, o', h1, _⟩ := oa.at _ _ _ b hb
          rw [z, nq] at h1; cases h1
        · obtain ⟨_, o', h1, _⟩ := oa.at _ _ _ q hm
          rw [nq] at h1; cases h1
        · rcases List.mem_cons.mp hb with z | z
          · rw [z]; exact a.hh.free nq
          · exact fr b z
      · exact p.elim⟩
theorem do_tupO {x1 : Nat} (h : DAO X W es fs) : DO X W (.Tuple es x1 pos) (tupO fs) :=
  (pe_tup h).wk fun σ H Q ⟨B, F, env, r, p⟩ => ⟨B, F, env, r, by
    unfold tupO at p
    cases e1 : fs env with
    | er c => rw [e1] at p; exact p
    | no => rw [e1] at p; exact p
    | ok ss =>
      rw [e1] at p
      simp only [R.bind] at p
      intro vs H1 F1 as a oa n fr
      split at p
      · rename_i hl
        refine ⟨by rw [oa.len]; exact le_line hl, fun q nq => p (.ref q) _ F1 (q :: as) (a.trans (After.newO a.fh nq)) (.tu (a.fh.free nq) upd_same (OwAll.mono (Same.refl _) _ _ _ oa fun b hb => ⟨(oa.at _ _ _ b hb).1, upd_ne fun z => ?_⟩)) (List.nodup_cons.mpr ⟨fun hm => ?_, n⟩) fun b hb => ?_⟩
        · obtain ⟨_, o', h1, _⟩ := oa.at _ _ _ b hb
          rw [z, nq] at h1; cases h1
        · obtain ⟨_, o', h1, _⟩ := oa.at _ _ _ q hm
          rw [nq] at h1; cases h1
        · rcases List.mem_cons.mp hb with z | z
          · rw [z]; exact a.hh.free nq
          · exact fr b z
      · exact p.elim⟩
end
/-! ### a slot is emptied -/
theorem OwEn.pull {K : PySem.W.Frag} {F H : Hp} : ∀ {σ : L2.St} {env : En} {as : List Addr} {i : Nat} {s : Sl}, OwEn K F H σ env as → as.Nodup → env[i]? = some (some s) →
    ∃ v cs ds, σ[i]? = some (some v) ∧ OwEn K F H σ (env.set i none) cs ∧ OwS K F H v s ds ∧ (ds ++ cs).Nodup ∧ ∀ b ∈ ds ++ cs, b ∈ as
  | _, _, _, _, _, .nil, _, e => by simp at e
  | _, _, _, 0, _, .un t, _, e => by simp at e
  | _, _, _, i + 1, _, .un t, n, e => by
    obtain ⟨v, cs, ds, h1, h2, h3, h4, h5⟩ := OwEn.pull (i := i) t n (by simpa using e)
    exact ⟨v, cs, ds, by simpa using h1, .un h2, h3, h4, h5⟩
  | _, _, _, 0, _, .so (bs := bs) (as := as) h t, n, e => by
    simp at e; subst e
    exact ⟨_, as, bs, rfl, .un t, h, n, fun b hb => hb⟩
  | _, _, _, i + 1, _, .so (bs := hs) (as := as) h t, n, e => by
    have n' := List.nodup_append.mp n
    obtain ⟨v, cs, ds, h1, h2, h3, h4, h5⟩ := OwEn.pull (i := i) t n'.2.1 (by simpa using e)
    have n4 := List.nodup_append.mp h4
    refine ⟨v, hs ++ cs, ds, by simpa using h1, .so h h2, h3, List.nodup_append.mpr ⟨n4.1, List.nodup_append.mpr ⟨n'.1, n4.2.1, fun x hx y hy z => n'.2.2 x hx y (h5 y (List.mem_append_right _ hy)) z⟩, fun x hx y hy z => ?_⟩, fun b hb => ?_⟩
    · rcases List.mem_append.mp hy with w | w
      · exact n'.2.2 y w x (h5 x (List.mem_append_left _ hx)) z.symm
      · exact n4.2.2 x hx y w z
    · rcases List.mem_append.mp hb with w | w
      · exact List.mem_append_right _ (h5 b (List.mem_append_left _ w))
      · rcases List.mem_append.mp w with w | w
        · exact List.mem_append_left _ w
        · exact List.mem_append_right _ (h5 b (List.mem_append_right _ w))
end DL
namespace DL
open PySem PySem.Spec PyProof.Rows L2
variable [Tabs]
/-! ### for a, b in x + [..]: a list of owned pairs is used up -/
def forP (i1 i2 : Nat) (T : En → SR) : List S → En → SR
  | [], env => .nx env
  | .tu [s1, s2] :: rest, env => match T ((env.set i1 (some (.v s1))).set i2 (some (.v s2))) with
    | .nx e => forP i1 i2 T rest e
    | .ct e => forP i1 i2 T rest e
    | .bk e => .nx e
    | .rt s => .rt s
    | .er c e => .er c e
    | .no => .no
  | _ :: _, _ => .no
def forMv (i i1 i2 : Nat) (f2 : En → R S) (T : En → SR) : En → SR := fun env => match env[i]? with
  | some (some (.v (.ow ss1))) => (f2 env).st env fun s => match s with
    | .ow ss2 => if ss1.length + ss2.length ≤ sizeLine then forP i1 i2 T (ss1 ++ ss2) (env.set i none) else .no
    | _ => .no
  | _ => .no
/-- what stands while the loop runs: B, and what was not yet taken -/
def plus (B H : Hp) (rs : List Addr) : Hp := fun b => if b ∈ rs then H b else B b
section
variable {K : PySem.W.Frag} {B F H : Hp} {rs : List Addr}
theorem plus_in {b : Addr} (h : b ∈ rs) : plus B H rs b = H b := if_pos h
theorem plus_out {b : Addr} (h : b ∉ rs) : plus B H rs b = B b := if_neg h
theorem plus_same (s : Same B H) : Same (plus B H rs) H := ⟨fun b o e n => by
  by_cases hb : b ∈ rs
  · rw [plus_in hb] at e; exact e
  · rw [plus_out hb] at e; exact s.k b o e n, fun b ps e => by
  by_cases hb : b ∈ rs
  · rw [plus_in hb] at e; exact ⟨#[], by rw [Array.append_empty]; exact e, by rw [Array.append_empty]; exact id⟩
  · rw [plus_out hb] at e; exact s.t b ps e⟩
theorem plus_bsame (s : BSame B H) (f : ∀ b ∈ rs, B b = none) : BSame (plus B H rs) H := ⟨plus_same s.s, fun P hP => by
  obtain ⟨ps, h1, h2⟩ := s.tg P hP
  exact ⟨ps, by rw [plus_out fun z => by rw [f P z] at h1; cases h1]; exact h1, h2⟩⟩
theorem plus_down {H' : Hp} (f : ∀ b ∈ rs, B b = none) (s : Same (plus B H rs) H') : Same B H' := ⟨fun b o e n => s.k b o (by rw [plus_out fun z => by rw [f b z] at e; cases e]; exact e) n,
  fun b ps e => s.t b ps (by rw [plus_out fun z => by rw [f b z] at e; cases e]; exact e)⟩
theorem plus_after {F' : Hp} (f : ∀ b ∈ rs, B b = none) (x : AfterS (plus B H rs) F F') : AfterS B F F' := ⟨x.ff, fun a o e n => by
  have := x.nw a o e n
  by_cases hb : a ∈ rs
  · exact f a hb
  · rw [plus_out hb] at this; exact this⟩
theorem plus_kept {F' H' : Hp} (f : ∀ b ∈ rs, F b = none ∧ ∃ o, H b = some o ∧ noTb o = true) (x : AfterS (plus B H rs) F F') (s : Same (plus B H rs) H') : ∀ b ∈ rs, F' b = none ∧ H' b = H b := fun b hb => by
  obtain ⟨h1, o, h2, h3⟩ := f b hb
  refine ⟨?_, ?_⟩
  · cases e : F' b with
    | none => rfl
    | some u =>
      have := x.nw b u e h1
      rw [plus_in hb, h2] at this; cases this
  · rw [h2]; exact s.k b o (by rw [plus_in hb]; exact h2) h3
end
section
variable {X : Cx} {W : WX} {k : Nat} {pos p p1 p2 p3 pt : Pos} {kt : Nat} {x n1 n2 : Str} {e2 : Expr} {f2 : En → R S} {body : List Stmt} {T : En → SR}
theorem ds_forMv (i i1 i2 : Nat) (cx : Cxt X W k) (h2 : DO X W e2 f2) (hb : DSs X W body T) (hN : X.N[i]? = some x := by rfl) (hN1 : X.N[i1]? = some n1 := by rfl) (hN2 : X.N[i2]? = some n2 := by rfl)
    (hv : Vis X.env.scope x := by first | exact Or.inl rfl | exact Or.inr (Or.inl rfl) | exact Or.inr (Or.inr rfl)) (hd : (x == ("__debug__" : Str)) = false := by decide) (hcd : (x == ("__classdict__" : Str)) = false := by decide)
    (hx1 : Loc X.env.scope n1 := by first | exact Or.inl rfl | exact Or.inr rfl) (hf1 : X.fn n1 = true ∨ X.env.scope.names.lookup n1 = some .local := by first | exact Or.inl rfl | exact Or.inr rfl)
    (hx2 : Loc X.env.scope n2 := by first | exact Or.inl rfl | exact Or.inr rfl) (hf2 : X.fn n2 = true ∨ X.env.scope.names.lookup n2 = some .local := by first | exact Or.inl rfl | exact Or.inr rfl)
    (ha1 : (assignEach [Expr.Name n1 p1, .Name n2 p2] X.env).map (·.2) = assign (.Name n1 p1) X.env :: (assignEach [Expr.Name n2 p2] X.env).map (·.2) := by rfl)
    (ha2 : (assignEach [Expr.Name n2 p2] X.env).map (·.2) = assign (.Name n2 p2) X.env :: (assignEach [] X.env).map (·.2) := by rfl)
    (hn : (assignEach [Expr.Name n1 p1, .Name n2 p2] X.env).length = 2 := by rfl) (hst : (assignEach [Expr.Name n1 p1, .Name n2 p2] X.env).findIdx? (·.1) = none := by rfl)
    (hs : ∀ y, foldedSetIterable (.BinOp (.Name x p) .Add e2 p3) X.env y = pure y := by intro _; rfl) :
    DS X W (.For (.Tuple [.Name n1 p1, .Name n2 p2] kt pt) (.BinOp (.Name x p) .Add e2 p3) body [] pos) (forMv i i1 i2 f2 T) :=
  (ps_for cx.po cx.calm (pi_list (pe_op op_addA (pe_var hN hv hd hcd) h2)) (pg_tup cx.calm (pgs_cons (pg_name cx.nd hN1 hx1 hf1) (pgs_cons (pg_name cx.nd hN2 hx2 hf2) pgs_nil ha2) ha1) hn hst) hb hs).wk fun D σ H ⟨B, F, env, r, p⟩ => by
    unfold forMv at p
    split at p
    case h_2 => exact p.elim
    case h_1 ss1 e =>
    obtain ⟨as, h1, nd1, b1⟩ := r.sl
    obtain ⟨v, cs, ds, q1, q2, q3, q4, q5⟩ := h1.pull nd1 e
    cases q3 with
    | v q3 =>
    cases q3 with
    | @ow a vs1 _ as1 fa ha oa1 =>
    have b2 : ∀ b ∈ (a :: as1) ++ cs, B b = none := fun b hb => b1 b (q5 b hb)
    refine ⟨_, q1, B, F, env, r, ?_⟩
    cases e2 : f2 env with
    | no => rw [e2] at p; exact p.elim
    | er c => rw [e2] at p; exact fun H' F' a => p σ H' F' (a.toS r.bh) (r.after a)
    | ok s =>
    rw [e2] at p
    cases s with
    | fr d => exact p.elim
    | tu us => exact p.elim
    | ow ss2 =>
    simp only [R.st] at p
    split at p
    case isFalse => exact p.elim
    case isTrue hl =>
    intro v2 H1 F1 bs a1 o2 nb fr2
    cases o2 with
    | @ow b vs2 _ as2 fb hbb oa2 =>
    have r1 := r.after a1
    have ka : H1 a = some (.lst vs1) := by rw [(a1.keepO ⟨fa, _, ha, rfl⟩).2]; exact ha
    have ko : ∀ y ∈ as1, F1 y = none ∧ H1 y = H y := fun y hy => a1.keepO (oa1.at _ _ _ y hy)
    have oa1' : OwAll X.K F1 H1 vs1 ss1 as1 := OwAll.mono a1.ff _ _ _ oa1 ko
    have kc : ∀ y ∈ cs, F1 y = none ∧ H1 y = H y := fun y hy => a1.keepO (q2.at y hy)
    refine .inr (.inr (.inl ⟨a, b, vs1, vs2, rfl, rfl, .inl (.inl ka), .inl (.inl hbb), by rw [oa1'.len, oa2.len]; exact hl, fun c nc => ⟨c, rfl, ⟨_, .inl (.inl upd_same)⟩, ?_⟩⟩))
    have oall : OwAll X.K F1 H1 (vs1 ++ vs2) (ss1 ++ ss2) (as1 ++ as2) := OwAll.app oa1' oa2
    have hne : ∀ y, H1 y ≠ none → y ≠ c := fun y hy z => hy (by rw [z]; exact nc)
    have oall2 : OwAll X.K F1 (upd H1 c (.lst (vs1 ++ vs2))) (vs1 ++ vs2) (ss1 ++ ss2) (as1 ++ as2) := OwAll.mono (Same.refl _) _ _ _ oall fun y hy => by
      obtain ⟨h3, o, h4, _⟩ := oall.at _ _ _ y hy
      exact ⟨h3, upd_ne (hne y (by rw [h4]; simp))⟩
    have env2 : OwEn X.K F1 (upd H1 c (.lst (vs1 ++ vs2))) σ (env.set i none) cs := q2.mono a1.ff fun y hy => by
      obtain ⟨h3, o, h4, _⟩ := q2.at y hy
      exact ⟨(kc y hy).1, (upd_ne (hne y (by rw [(kc y hy).2, h4]; simp))).trans (kc y hy).2⟩
    have n4 := List.nodup_append.mp q4
    have n5 := (List.nodup_cons.mp n4.1)
    have nbs := (List.nodup_cons.mp nb)
    have fresh2 : ∀ y ∈ as2, H y = none := fun y hy => fr2 y (List.mem_cons_of_mem _ hy)
    have heldIn : ∀ y ∈ as1 ++ cs, ∃ o, H y = some o := fun y hy => by
      rcases List.mem_append.mp hy with z | z
      · obtain ⟨_, o, h4, _⟩ := oa1.at _ _ _ y z; exact ⟨o, h4⟩
      · obtain ⟨_, o, h4, _⟩ := q2.at y z; exact ⟨o, h4⟩
    have ndall : ((as1 ++ as2) ++ cs).Nodup := List.nodup_append.mpr ⟨List.nodup_append.mpr ⟨n5.2, nbs.2, fun y hy z hz w => by
      obtain ⟨o, h4⟩ := heldIn y (List.mem_append_left _ hy)
      rw [w, fresh2 z hz] at h4; cases h4⟩, n4.2.1, fun y hy z hz w => by
      rcases List.mem_append.mp hy with u | u
      · exact n4.2.2 y (List.mem_cons_of_mem _ u) z hz w
      · obtain ⟨o, h4⟩ := heldIn z (List.mem_append_right _ hz)
        rw [← w, fresh2 y u] at h4; cases h4⟩
    have bn : ∀ y ∈ (as1 ++ as2) ++ cs, B y = none := fun y hy => by
      rcases List.mem_append.mp hy with u | u
      · rcases List.mem_append.mp u with u | u
        · exact b2 y (List.mem_append_left _ (List.mem_cons_of_mem _ u))
        · exact r.bh.free (fresh2 y u)
      · exact b2 y (List.mem_append_right _ u)
    have F1c : F1 c = none := a1.fh.free nc
    have Bc : B c = none := r1.bh.free nc
    have cn : c ∉ (as1 ++ as2) ++ cs := fun z => by
      rcases List.mem_append.mp z with u | u
      · obtain ⟨_, o, h4, _⟩ := oall.at _ _ _ c u; rw [nc] at h4; cases h4
      · obtain ⟨_, o, h4, _⟩ := q2.at c u
        have := (kc c u).2
        rw [nc, h4] at this; cases this
    have nupd : ∀ y o, H1 y = some o → upd H1 c (.lst (vs1 ++ vs2)) y = some o := fun y o hy => by rw [upd_ne (hne y (by rw [hy]; simp))]; exact hy
    have up : Same H1 (upd H1 c (.lst (vs1 ++ vs2))) := .of nupd
    have p : PoS X.K (ecOf X.mg) W B F1 D (forP i1 i2 T (ss1 ++ ss2) (env.set i none)) := PoS.after p (a1.toS r.bh)
    generalize hH2 : upd H1 c (.lst (vs1 ++ vs2)) = H2 at *
    have H2c : H2 c = some (.lst (vs1 ++ vs2)) := by rw [← hH2]; exact upd_same
    have bh2 : BSame B H2 := r1.bh.trans up
    have fh2 : Same F1 H2 := a1.fh.trans up
    generalize vs1 ++ vs2 = vs at *
    generalize ss1 ++ ss2 = ss at *
    generalize as1 ++ as2 = rs0 at *
    have hlen := oall2.len
    let N : Nat → L2.St → Hp → Prop := fun k σ2 H3 => ∃ F2 env2 rs cs, AfterS B F1 F2 ∧ BSame B H3 ∧ Same F2 H3 ∧ OwEn X.K F2 H3 σ2 env2 cs ∧ OwAll X.K F2 H3 (vs.drop k) (ss.drop k) rs ∧ (rs ++ cs).Nodup ∧ (∀ b ∈ rs ++ cs, B b = none) ∧ H3 c = some (.lst vs) ∧ F2 c = none ∧ c ∉ rs ++ cs ∧ PoS X.K (ecOf X.mg) W B F2 D (forP i1 i2 T (ss.drop k) env2)
    refine ⟨fun k m σ2 H3 => m = ss.length - k ∧ k ≤ ss.length ∧ N k σ2 H3, ⟨ss.length, by simp, Nat.zero_le _, F1, env.set i none, rs0, cs, AfterS.refl, bh2, fh2, env2, oall2, ndall, bn, H2c, F1c, cn, p⟩, ?_⟩
    rintro k m σ2 H3 ⟨rfl, hk, F2, env3, rs, cs3, x2, bh3, fh3, en3, oa3, nd3, bn3, H3c, F3c, cn3, p3⟩
    by_cases hlt : k < ss.length
    · have hv : k < vs.length := by rw [hlen]; exact hlt
      refine .inr ⟨⟨vs, vs[k], .inl (.inl H3c), List.getElem?_eq_getElem hv⟩, N (k + 1), fun σ' H' h => ⟨ss.length - (k + 1), by omega, rfl, hlt, h⟩, fun v H' ⟨hH', hv'⟩ => ?_⟩
      subst hH'
      have ev := hv' vs (.inl (.inl H3c))
      rw [List.getElem?_eq_getElem hv] at ev
      injection ev with ev
      rw [List.drop_eq_getElem_cons hv, List.drop_eq_getElem_cons hlt] at oa3
      rw [List.drop_eq_getElem_cons hlt] at p3
      rw [ev] at oa3
      generalize ss[k] = s at oa3 p3
      cases oa3 with
      | @cons _ _ ak _ _ rs' ok orest =>
      cases s with
      | fr d => exact p3.elim
      | ow us => exact p3.elim
      | tu us =>
      match us, p3, ok with
      | [], p3, _ => exact p3.elim
      | [_], p3, _ => exact p3.elim
      | _ :: _ :: _ :: _, p3, _ => exact p3.elim
      | [s1, s2], p3, ok =>
      cases ok with
      | @tu t ws _ at_ ft ht ot =>
      cases ot with
      | @cons v1 _ a1' ws1 _ _ o1 ot =>
      cases ot with
      | @cons v2' _ a2' _ _ _ o2' ot =>
      cases ot
      rw [List.append_nil] at *
      refine ⟨t, [v1, v2'], rfl, .inl (.inl ht), rfl, v1, [v2'], rfl, v2', [], rfl, rfl, ?_⟩
      have nA := List.nodup_append.mp nd3
      have nB := List.nodup_append.mp nA.1
      have nC := (List.nodup_cons.mp nB.1)
      have nD := List.nodup_append.mp nC.2
      have inR : ∀ y ∈ a1', y ∈ (t :: (a1' ++ a2')) := fun y hy => List.mem_cons_of_mem _ (List.mem_append_left _ hy)
      have inR2 : ∀ y ∈ a2', y ∈ (t :: (a1' ++ a2')) := fun y hy => List.mem_cons_of_mem _ (List.mem_append_right _ hy)
      obtain ⟨c1, g1, g2, g3⟩ := OwEn.set (.v o1) i1 en3 nA.2.1 nD.1 fun y hy z => nA.2.2 y (List.mem_append_left _ (inR y hy)) y z rfl
      obtain ⟨c2, g4, g5, g6⟩ := OwEn.set (.v o2') i2 g1 g2 nD.2.1 fun y hy z => by
        rcases g3 y z with w | w
        · exact nA.2.2 y (List.mem_append_left _ (inR2 y hy)) y w rfl
        · exact nD.2.2 y w y hy rfl
      have c2in : ∀ y ∈ c2, y ∉ c :: rs' ∧ B y = none := fun y hy => by
        have key : (y ∈ cs3 ∨ y ∈ a1') ∨ y ∈ a2' := (g6 y hy).imp (g3 y) id
        have inAll : y ∈ ((t :: (a1' ++ a2')) ++ rs') ++ cs3 := by
          rcases key with (w | w) | w
          · exact List.mem_append_right _ w
          · exact List.mem_append_left _ (List.mem_append_left _ (inR y w))
          · exact List.mem_append_left _ (List.mem_append_left _ (inR2 y w))
        refine ⟨fun z => ?_, bn3 y inAll⟩
        rcases List.mem_cons.mp z with z | z
        · rw [z] at inAll; exact cn3 inAll
        · rcases key with (w | w) | w
          · exact nA.2.2 y (List.mem_append_right _ z) y w rfl
          · exact nB.2.2 y (inR y w) y z rfl
          · exact nB.2.2 y (inR2 y w) y z rfl
      have Bc' : ∀ y ∈ c :: rs', B y = none := fun y hy => by
        rcases List.mem_cons.mp hy with z | z
        · rw [z]; exact Bc
        · exact bn3 y (List.mem_append_left _ (List.mem_append_right _ z))
      have held : ∀ y ∈ c :: rs', F2 y = none ∧ ∃ o, H' y = some o ∧ noTb o = true := fun y hy => by
        rcases List.mem_cons.mp hy with z | z
        · rw [z]; exact ⟨F3c, _, H3c, rfl⟩
        · exact orest.at _ _ _ y z
      have rel : Rel X.K (plus B H' (c :: rs')) F2 H' ((env3.set i1 (some (.v s1))).set i2 (some (.v s2))) ((σ2.set i1 (some v1)).set i2 (some v2')) :=
        ⟨plus_bsame bh3 Bc', fh3, c2, g4, g5, fun y hy => by rw [plus_out (c2in y hy).1]; exact (c2in y hy).2⟩
      refine ⟨plus B H' (c :: rs'), F2, _, rel, ?_⟩
      have next : ∀ (e : En) (σ' : L2.St) (H4 F4 : Hp), PoS X.K (ecOf X.mg) W B F2 D (forP i1 i2 T (ss.drop (k + 1)) e) → AfterS (plus B H' (c :: rs')) F2 F4 → Rel X.K (plus B H' (c :: rs')) F4 H4 e σ' → N (k + 1) σ' H4 := fun e σ' H4 F4 pp af rl => by
        obtain ⟨cs4, w1, w2, w3⟩ := rl.sl
        have kept := plus_kept held af rl.bh.s
        have notin : ∀ y ∈ cs4, y ∉ c :: rs' := fun y hy z => by
          have := w3 y hy
          obtain ⟨_, o, h4, _⟩ := held y z
          rw [plus_in z, h4] at this; cases this
        have kr := fun y hy => kept y (List.mem_cons_of_mem _ hy)
        refine ⟨F4, e, rs', cs4, x2.trans (plus_after Bc' af), ⟨plus_down Bc' rl.bh.s, bh3.tg⟩, rl.fh, w1, OwAll.mono af.ff _ _ _ orest kr, List.nodup_append.mpr ⟨nB.2.1, w2, fun y hy z hz w => notin z hz (List.mem_cons_of_mem _ (w ▸ hy))⟩, fun y hy => ?_, (kept c List.mem_cons_self).2.trans H3c, (kept c List.mem_cons_self).1, fun z => ?_, PoS.after pp (plus_after Bc' af)⟩
        · rcases List.mem_append.mp hy with z | z
          · exact Bc' y (List.mem_cons_of_mem _ z)
          · have := w3 y z
            rw [plus_out (notin y z)] at this; exact this
        · rcases List.mem_append.mp z with w | w
          · exact cn3 (List.mem_append_left _ (List.mem_append_right _ w))
          · exact notin c w List.mem_cons_self
      simp only [forP] at p3
      cases e4 : T ((env3.set i1 (some (.v s1))).set i2 (some (.v s2))) with
      | no => rw [e4] at p3; exact p3.elim
      | nx e => rw [e4] at p3; exact fun σ' H4 F4 af rl => next e σ' H4 F4 p3 af rl
      | ct e => rw [e4] at p3; exact fun σ' H4 F4 af rl => next e σ' H4 F4 p3 af rl
      | bk e =>
        rw [e4] at p3
        exact fun σ' H4 F4 af rl => by
          obtain ⟨cs4, w1, w2, w3⟩ := rl.sl
          exact p3 σ' H4 F4 (plus_after Bc' af) ⟨⟨plus_down Bc' rl.bh.s, bh3.tg⟩, rl.fh, cs4, w1, w2, fun y hy => by
            have := w3 y hy
            by_cases z : y ∈ c :: rs'
            · exact Bc' y z
            · rw [plus_out z] at this; exact this⟩
      | er cc e =>
        rw [e4] at p3
        exact fun σ' H4 F4 af rl => by
          obtain ⟨cs4, w1, w2, w3⟩ := rl.sl
          exact p3 σ' H4 F4 (plus_after Bc' af) ⟨⟨plus_down Bc' rl.bh.s, bh3.tg⟩, rl.fh, cs4, w1, w2, fun y hy => by
            have := w3 y hy
            by_cases z : y ∈ c :: rs'
            · exact Bc' y z
            · rw [plus_out z] at this; exact this⟩
      | rt s =>
        rw [e4] at p3
        exact fun v H4 F4 bs af sb sf o n fr => p3 v H4 F4 bs (plus_after Bc' af) (plus_down Bc' sb) sf o n fun y hy => by
          have := fr y hy
          by_cases z : y ∈ c :: rs'
          · exact Bc' y z
          · rw [plus_out z] at this; exact this
    · have e7 : k = ss.length := by omega
      refine .inl ⟨⟨vs, .inl (.inl H3c), by rw [hlen]; omega⟩, ?_⟩
      rw [e7, List.drop_length] at p3 oa3
      exact p3 σ2 H3 F2 AfterS.refl ⟨bh3, fh3, cs3, en3, (List.nodup_append.mp nd3).2.1, fun y hy => bn3 y (List.mem_append_right _ hy)⟩
end
end DL
namespace DL
open PySem PySem.Spec PyProof PyProof.Rows L2
/-! ### quiet evaluation over a heap that stands: h0; statements may store in the frame -/
structure QG (q : QX) (h0 : Heap) (env : En) (s : Shared) : Prop where
  bk : ∀ b o, q.base.get? b = some o → h0.get? b = some o
  len : ∀ i x, q.N i = some x → i < env.length
  loc : ∃ m, Fr h0 q.env.locals s.heap m ∧ ∀ i x d, q.N i = some x → env[i]? = some (some (.v (.fr d))) → ∃ u, m x = some u ∧ VD h0 u d
/-- all but the heap is the same, and the heap is kept but for the frame L -/
def Oth (L : Addr) (s s' : Shared) : Prop := ∃ h tk, s' = { heap := h, gens := s.gens, drawn := s.drawn, toks := tk, os := s.os } ∧ ∀ b o, b ≠ L → s.heap.get? b = some o → h.get? b = some o
theorem oth_refl {L : Addr} (s : Shared) : Oth L s s := ⟨s.heap, s.toks, rfl, fun _ _ _ e => e⟩
theorem oth_trans {L : Addr} {s s1 s2 : Shared} (a : Oth L s s1) (b : Oth L s1 s2) : Oth L s s2 := by
  obtain ⟨h1, t1, rfl, k1⟩ := a
  obtain ⟨h2, t2, rfl, k2⟩ := b
  exact ⟨h2, t2, rfl, fun b o n e => k2 b o n (k1 b o n e)⟩
theorem oth_keeps {L : Addr} {s s1 : Shared} (a : Keeps s s1) : Oth L s s1 := by
  obtain ⟨h1, t1, rfl, k⟩ := a
  exact ⟨h1, t1, rfl, fun b o _ e => k b o e⟩
section
variable {q : QX} {h0 : Heap} {env : En} {s s1 : Shared}
theorem QG.h (r : QG q h0 env s) : ∀ b o, h0.get? b = some o → s.heap.get? b = some o := let ⟨_, f, _⟩ := r.loc; f.keep
theorem QG.size (r : QG q h0 env s) : h0.objs.size ≤ s.heap.objs.size := by
  obtain ⟨m, f, _⟩ := r.loc
  obtain ⟨ob, _, _, e, _⟩ := f.ns
  exact Nat.le_of_lt (Nat.lt_of_le_of_lt f.above (Heap.lt_size e))
theorem QG.keep (r : QG q h0 env s) (a : Keeps s s1) : QG q h0 env s1 := by
  obtain ⟨m, f, h⟩ := r.loc
  have k := kp_heap a
  exact ⟨r.bk, r.len, m, ⟨f.ns.keeps k, fun b o e => k b o (f.keep b o e), f.above⟩, h⟩
end
def QGE (q : QX) (h0 : Heap) (k : Nat) (e : Expr) (f : En → R D) : Prop := ∀ (A : Around) (s : Shared) (E : Value → Shared → Prop) (env : En) (d : D), Room k A → QG q h0 env s → f env = .ok d →
  wpAny (model q.P q.w) A (eval e q.env) (fun y s' => VD h0 y d ∧ Keeps s s') E s
def QGT (q : QX) (h0 : Heap) (k : Nat) (e : Expr) (f : En → R Bool) : Prop := ∀ (A : Around) (s : Shared) (E : Value → Shared → Prop) (env : En) (b : Bool), Room k A → QG q h0 env s → f env = .ok b →
  wpAny (model q.P q.w) A (isTrue e q.env (eval e q.env)) (fun c s' => c = b ∧ Keeps s s') E s
def QGA (q : QX) (h0 : Heap) (k : Nat) (es : List Expr) (f : En → R (List D)) : Prop := ∀ (pos : Pos) (A : Around) (s : Shared) (E : Value → Shared → Prop) (env : En) (ds : List D), Room k A → QG q h0 env s → f env = .ok ds →
  wpAny (model q.P q.w) A (spliced (backTo pos (starEach es q.env))) (fun us s' => VDs h0 us ds ∧ Keeps s s') E s
/-- a quiet function whose answer lies where its arguments lie -/
structure QFS (P : Program) (w : World) (K : PySem.W.Frag) (mg : Str → Option Value) (base : Heap) (k : Nat) (x : Str) (n : Nat) (g : List D → R S) : Prop where
  ex : ∃ f, mg x = some (.ref f) ∧ PySem.W.keepIn K (.ref f) = true ∧ ∀ (A : Around) (s : Shared) (h0 : Heap) (us : List Value) (ds : List D) (d : D), Room k A → (∀ b o, base.get? b = some o → h0.get? b = some o) → (∀ b o, h0.get? b = some o → s.heap.get? b = some o) → h0.objs.size ≤ s.heap.objs.size →
    us.length = n → VDs h0 us ds → g ds = .ok (.fr d) → codeAny (model P w) A (.call (.ref f) ⟨us, []⟩) (fun r s' => ∃ u, r = .ok (.ret u) ∧ VD h0 u d ∧ Keeps s s') s
theorem QFS.qfn {P : Program} {w : World} {K : PySem.W.Frag} {mg : Str → Option Value} {base : Heap} {k : Nat} {x : Str} {n : Nat} {g : List D → R S} (c : QFS P w K mg base k x n g) : QFn P w K mg base k x n g := by
  obtain ⟨f, h1, h2, h3⟩ := c.ex
  exact ⟨f, h1, h2, fun A s us ds d rm hb hn hv hg => codeAny_mono (h3 A s s.heap us ds d rm hb (fun _ _ e => e) (Nat.le_refl _) hn hv hg) fun r s' ⟨u, z1, z2, z3⟩ => ⟨u, z1, z2.keeps (kp_heap z3) _ _, z3⟩⟩
section
variable {q : QX} {h0 : Heap} {k : Nat} {pos : Pos} {j : Nat} {a b e : Expr} {es : List Expr} {fa fb f : En → R D} {fs : En → R (List D)} {g : List D → R S}
theorem qge_var {x : Str} (o : QO q) (i : Nat) (hN : q.N i = some x := by rfl) (hv : q.env.kindOf x = some .local := by rfl) (hd : (x == ("__debug__" : Str)) = false := by rfl) : QGE q h0 k (.Name x pos) (vf i) := by
  intro A s E env d _ r e
  obtain ⟨m, h1, h2⟩ := r.loc
  unfold vf at e
  split at e
  · rename_i d' e2
    cases e
    obtain ⟨u, z1, z2⟩ := h2 i x _ hN e2
    exact wpAny_Name (wpAny_loadName_local o.kind hv h1.ns z1 ⟨z2, kp_refl s⟩) hd
  · cases e
theorem qge_int {i : Int} : QGE q h0 k (.Constant (.int i) j pos) (fun _ => .ok (.int i)) := by
  intro A s E env d _ r e
  cases e
  exact wpAny_Constant_int ⟨.int i _, kp_tok s _⟩
theorem qge_bl {i : Bool} : QGE q h0 k (.Constant (.bool i) j pos) (fun _ => .ok (.bool i)) := by
  intro A s E env d _ r e
  cases e
  exact Constant_bool ⟨.bl i, kp_refl s⟩
theorem qge_non : QGE q h0 k (.Constant .none j pos) (fun _ => .ok .none) := by
  intro A s E env d _ r e
  cases e
  exact Constant_none ⟨.non, kp_refl s⟩
theorem qga_nil : QGA q h0 k [] nilA := by
  intro pos A s E env ds rm r z
  cases z
  exact Calls.spliced_nil ⟨.nil, kp_refl s⟩
theorem qga_cons (h1 : QGE q h0 k e f) (h2 : QGA q h0 k es fs) (he : starEach (e :: es) q.env = (false, eval e q.env) :: starEach es q.env := by rfl) : QGA q h0 k (e :: es) (consA f fs) := by
  intro pos A s E env ds rm r z
  obtain ⟨d, z1, z⟩ := bind_ok z
  obtain ⟨ds', z2, z⟩ := bind_ok z
  cases z
  rw [he]
  show wpAny _ _ (spliced ((false, eval e q.env) :: backTo pos (starEach es q.env))) _ _ s
  refine Calls.spliced_cons (thn (h1 A s _ env d rm r z1) fun u s1 ⟨v1, k1⟩ => ?_)
  exact thn (h2 pos A s1 _ env ds' rm (r.keep k1) z2) fun us s2 ⟨v2, k2⟩ => ⟨.cons v1 v2, kp_trans k1 k2⟩
theorem qge_call {x : Str} {p : Pos} {n : Nat} (o : QO q) (c : QFS q.P q.w q.K q.mg q.base k x n g) (hg : q.env.kindOf x = some .globalImplicit) (ha : QGA q h0 k (e :: es) fs) (hn : ∀ ds env, fs env = .ok ds → ds.length = n) (hdb : (x == ("__debug__" : Str)) = false := by decide)
    (he : starEach (e :: es) q.env = (false, eval e q.env) :: starEach es q.env := by rfl) (hpl : (backTo pos (starEach es q.env)).any (·.1) = false := by rfl) : QGE q h0 k (.Call (.Name x p) (e :: es) [] pos) (frO (cal fs g)) := by
  intro A s E env d rm r z
  obtain ⟨f, c1, c2, c3⟩ := c.ex
  obtain ⟨sv, z1, z⟩ := bind_ok z
  obtain ⟨ds, z2, z3⟩ := bind_ok z1
  have nl := hn ds env z2
  have bk : ∀ {s1 : Shared}, QG q h0 env s1 → ∀ b ob, q.base.get? b = some ob → s1.heap.get? b = some ob := fun r1 b ob eb => r1.h b ob (r1.bk b ob eb)
  refine wpAny_Call_Name_kw (Calls.Name_function_global o.kind hg (Calls.loadGlobal_global (by rw [o.glob]; exact o.mod.glob.keeps (bk r)) c1 ?_) hdb)
  refine PySem.W.callWith_K (h₀ := q.base) o.mod.kin c2 (thn (ha pos A s E env ds rm r z2) fun us s1 ⟨v1, k1⟩ => ⟨o.mod.kin.keeps (bk (r.keep k1)), ?_⟩) he hpl
  cases sv with
  | fr d' =>
    have z : R.ok d' = .ok d := z
    cases z
    refine wpAny_call (codeAny_mono (c3 A s1 h0 us ds d rm r.bk (r.keep k1).h (r.keep k1).size (v1.len.trans nl) v1 z3) fun rr s2 ⟨u, y1, y2, y3⟩ => ?_)
    subst y1
    exact ⟨y2, kp_trans k1 y3⟩
  | ow xs => cases z
  | tu xs => cases z
end
end DL
namespace DL
open PySem PySem.Spec PyProof PyProof.Rows L2
section
variable {q : QX} {G : Heap} {k : Nat} {pos : Pos} {j : Nat} {a b : Expr} {fa fb : En → R D}
theorem qgt_isN (ha : QGE q G k a fa) {p p2 : Pos} : QGT q G k (.Compare a [.Is] [.Constant .none j p] p2) (t2 fa cN isD) := by
  intro A s E env c rm r e
  unfold t2 at e
  obtain ⟨d, e1, e2⟩ := bind_ok e
  have e2 : R.ok (isNo d) = .ok c := e2
  cases e2
  refine wpAny_isTrue_Compare1 (thn (ha A s E env d rm r e1) fun u s1 ⟨v, k1⟩ => ?_)
  refine Constant_none ?_
  refine is_none_gen ?_
  refine wpAny_truthy_bool ⟨?_, k1⟩
  cases v <;> rfl
/-- the truth of a bool -/
def truB (f : En → R D) : En → R Bool := fun env => (f env).bind fun d => match d with
  | .bool b => .ok b
  | _ => .no
theorem qgt_val (ha : QGE q G k a fa) (he : ∀ whole, isTrue a q.env whole = (do let v ← whole; standAt a.pos; holding [v] (truthy v)) := by intro _; rfl) : QGT q G k a (truB fa) := by
  intro A s E env c rm r e
  unfold truB at e
  obtain ⟨d, e1, e2⟩ := bind_ok e
  cases d with
  | bool bb =>
    have e2 : R.ok bb = .ok c := e2
    cases e2
    refine wpAny_isTrue_value (thn (ha A s E env (.bool _) rm r e1) fun u s1 ⟨v, k1⟩ => ?_) (he _)
    cases v
    exact wpAny_truthy_bool ⟨rfl, k1⟩
  | _ => cases e2
theorem qge_mul (ha : QGE q G k a fa) (hb : QGE q G k b fb) : QGE q G k (.BinOp a .Mult b pos) (b2 fa fb mulD) := by
  intro A s E env c rm r e
  unfold b2 at e
  obtain ⟨d1, e1, e⟩ := bind_ok e
  obtain ⟨d2, e2, e⟩ := bind_ok e
  refine wpAny_BinOp (thn (ha A s E env d1 rm r e1) fun u s1 ⟨v1, k1⟩ => thn (hb A s1 E env d2 rm (r.keep k1) e2) fun u2 s2 ⟨v2, k2⟩ => ?_)
  unfold mulD gI i2 at e
  split at e
  · rename_i i j
    dsimp only at e
    split at e
    · rename_i hc
      cases e
      cases v1
      cases v2
      exact mul_int ⟨.int _ _, kp_trans (kp_trans k1 k2) (kp_tok s2 _)⟩ (CMulX.ok hc)
    · cases e
  · cases e
theorem qge_lt (ha : QGE q G k a fa) (hb : QGE q G k b fb) (hm : behindInMarks .Lt b = false := by rfl) : QGE q G k (.Compare a [.Lt] [b] pos) (b2 fa fb ltD) := by
  intro A s E env c rm r e
  unfold b2 at e
  obtain ⟨d1, e1, e⟩ := bind_ok e
  obtain ⟨d2, e2, e⟩ := bind_ok e
  refine wpAny_Compare1 (thn (ha A s E env d1 rm r e1) fun u s1 ⟨v1, k1⟩ => thn (hb A s1 E env d2 rm (r.keep k1) e2) fun u2 s2 ⟨v2, k2⟩ => ?_) hm
  unfold ltD gB0 i2 at e
  split at e
  · rename_i i j
    dsimp only at e
    cases e
    cases v1
    cases v2
    exact lt_int ⟨.bl _, kp_trans k1 k2⟩
  · cases e
theorem qge_ix (ha : QGE q G k a fa) (hb : QGE q G k b fb) (hs : PlainIx b := by intro _ _; rfl) : QGE q G k (.Subscript a b pos) (b2 fa fb ixD) := by
  intro A s E env c rm r e
  unfold b2 at e
  obtain ⟨d1, e1, e⟩ := bind_ok e
  obtain ⟨d2, e2, e⟩ := bind_ok e
  refine Subscript_ (thn (ha A s E env d1 rm r e1) fun u s1 ⟨v1, k1⟩ => thn (hb A s1 E env d2 rm (r.keep k1) e2) fun u2 s2 ⟨v2, k2⟩ => ?_)
  have kG := ((r.keep k1).keep k2).h
  cases d2 with
  | int i =>
    obtain ⟨t, rfl⟩ : ∃ t, u2 = .int i t := by cases v2; exact ⟨_, rfl⟩
    unfold ixD at e
    dsimp only at e
    split at e
    · rename_i ds
      split at e
      · rename_i d' ei
        cases e
        cases v1 with
        | @lst p us _ hz hl hv =>
          obtain ⟨n, h1, h2, h3, h4, h5⟩ := L2.atI_get ei
          obtain ⟨u', g1, g2⟩ := hv.get h2
          have hl : s2.heap.IsList p us.toArray := by obtain ⟨o, e, c⟩ := hl; exact ⟨o, kG _ _ e, c⟩
          have hlen := hv.len
          have hm := line63
          by_cases h0 : 0 ≤ i
          · have hj : i.toNat = n := by
              rw [seqIndex_of h0 h5] at h1
              exact Option.some.inj h1
            exact item_listR hl h0 (by omega) (by rw [hj]; simpa using g1) ⟨g2, kp_trans k1 k2⟩ (hs _ _)
          · have hj : (i + (us.toArray.size : Int)).toNat = n := by
              rw [seqIndex_neg (by omega) h4] at h1
              rw [List.size_toArray, hlen]
              exact Option.some.inj h1
            exact subscriptTail_builtinR (x := u') hl.typeIs slot_list_getitem.lookup
              (wpAny_getItem_list_neg (Q := fun y s' => y = u' ∧ VD G y _ ∧ Keeps s s') hl (by omega) (by rw [List.size_toArray]; omega) (by omega) (by rw [hj]; simpa using g1) ⟨rfl, g2, kp_trans k1 k2⟩) (hs _ _)
      · cases e
    · rename_i ds
      split at e
      · rename_i d' ei
        cases e
        cases v1 with
        | @tup p us _ hz hl hv =>
          obtain ⟨n, h1, h2, h3, h4, h5⟩ := L2.atI_get ei
          obtain ⟨u', g1, g2⟩ := hv.get h2
          have hl : IsTup s2.heap p us.toArray := by obtain ⟨o, e, c⟩ := hl; exact ⟨o, kG _ _ e, c⟩
          have hlen := hv.len
          have hm := line63
          exact subscriptTail_builtinR (x := u') hl.typeIs slot_tuple_getitem.lookup
            (getItem_tuple (j := n) (Q := fun y s' => y = u' ∧ VD G y _ ∧ Keeps s s') hl (by omega) (by omega) (by rw [List.size_toArray, hlen]; exact h1) (by simpa using g1) ⟨rfl, g2, kp_trans k1 k2⟩) (hs _ _)
      · cases e
    · cases e
  | _ => cases e
end
/-! ### statements -/
/-- the stand at the end of a statement that goes on -/
def QGS (q : QX) (G : Heap) (k : Nat) (st : Stmt) (T : En → SR) : Prop := ∀ (A : Around) (s : Shared) (E : Value → Shared → Prop) (env : En), Room k A → PassesOwn (model q.P q.w) A q.env E → QG q G env s →
  (∀ d, T env = .rt (.fr d) → wpAny (model q.P q.w) A (exec st q.env) (fun fl s' => ∃ u, fl = .ret u ∧ VD G u d ∧ Oth q.env.locals s s' ∧ ∀ b o, G.get? b = some o → s'.heap.get? b = some o) E s) ∧
  (∀ e', T env = .nx e' → wpAny (model q.P q.w) A (exec st q.env) (fun fl s' => fl = .next ∧ Oth q.env.locals s s' ∧ QG q G e' s') E s)
def QGSs (q : QX) (G : Heap) (k : Nat) (sts : List Stmt) (T : En → SR) : Prop := ∀ (A : Around) (s : Shared) (E : Value → Shared → Prop) (env : En), Room k A → PassesOwn (model q.P q.w) A q.env E → QG q G env s →
  (∀ d, T env = .rt (.fr d) → wpAny (model q.P q.w) A (execs sts q.env) (fun fl s' => ∃ u, fl = .ret u ∧ VD G u d ∧ Oth q.env.locals s s' ∧ ∀ b o, G.get? b = some o → s'.heap.get? b = some o) E s) ∧
  (∀ e', T env = .nx e' → wpAny (model q.P q.w) A (execs sts q.env) (fun fl s' => fl = .next ∧ Oth q.env.locals s s' ∧ QG q G e' s') E s)
section
variable {q : QX} {G : Heap} {k : Nat} {pos : Pos} {st : Stmt} {sts : List Stmt} {T U : En → SR} {e : Expr} {f : En → R D}
theorem qgs_nil : QGSs q G k [] nxS := by
  intro A s E env rm pe r
  refine ⟨fun d e => (by cases e), fun e' e => ?_⟩
  cases e
  exact wpAny_execs_nil ⟨rfl, oth_refl s, r⟩
theorem qgs_cons (h1 : QGS q G k st T) (h2 : QGSs q G k sts U) : QGSs q G k (st :: sts) (sqS T U) := by
  intro A s E env rm pe r
  have r1 := h1 A s E env rm pe r
  refine ⟨fun d e => ?_, fun e' e => ?_⟩
  · rw [e_sqS] at e
    cases eT : T env with
    | rt t =>
      rw [eT] at e
      have e : SR.rt t = .rt (.fr d) := e
      cases e
      exact wpAny_execs_cons (thn (r1.1 d eT) fun fl s1 ⟨u, z1, z2⟩ => by subst z1; exact ⟨u, rfl, z2⟩)
    | nx e1 =>
      rw [eT] at e
      refine wpAny_execs_cons (thn (r1.2 e1 eT) fun fl s1 ⟨z1, z2, z3⟩ => ?_)
      subst z1
      exact thn ((h2 A s1 E e1 rm pe z3).1 d e) fun fl s2 ⟨u, y1, y2, y3, y4⟩ => ⟨u, y1, y2, oth_trans z2 y3, y4⟩
    | _ => rw [eT] at e; cases e
  · rw [e_sqS] at e
    cases eT : T env with
    | nx e1 =>
      rw [eT] at e
      refine wpAny_execs_cons (thn (r1.2 e1 eT) fun fl s1 ⟨z1, z2, z3⟩ => ?_)
      subst z1
      exact thn ((h2 A s1 E e1 rm pe z3).2 e' e) fun fl s2 ⟨y1, y2, y3⟩ => ⟨y1, oth_trans z2 y2, y3⟩
    | _ => rw [eT] at e; cases e
theorem qgs_one (h1 : QGS q G k st T) : QGSs q G k [st] T := by
  intro A s E env rm pe r
  have r1 := h1 A s E env rm pe r
  exact ⟨fun d e => wpAny_execs_cons (thn (r1.1 d e) fun fl s1 ⟨u, z1, z2⟩ => by subst z1; exact ⟨u, rfl, z2⟩), fun e' e => wpAny_execs_cons (thn (r1.2 e' e) fun fl s1 ⟨z1, z2⟩ => by subst z1; exact wpAny_execs_nil ⟨rfl, z2⟩)⟩
theorem qgs_ret (h : QGE q G k e f) : QGS q G k (.Return (some e) pos) (rtS f) := by
  intro A s E env rm pe r
  refine ⟨fun d z => ?_, fun e' z => ?_⟩
  · rw [e_rtS] at z
    cases ef : f env with
    | ok d' =>
      rw [ef] at z
      have z : SR.rt (.fr d') = .rt (.fr d) := z
      cases z
      exact wpAny_Return_some (thn (h A s E env d rm r ef) fun u s1 y => ⟨u, rfl, y.1, oth_keeps y.2, (r.keep y.2).h⟩)
    | er c => rw [ef] at z; cases z
    | no => rw [ef] at z; cases z
  · rw [e_rtS] at z
    cases ef : f env with
    | ok d' => rw [ef] at z; cases z
    | er c => rw [ef] at z; cases z
    | no => rw [ef] at z; cases z
theorem qgs_if {c : Expr} {t : En → R Bool} {st1 st2 : List Stmt} (hc : QGT q G k c t) (h1 : QGSs q G k st1 T) (h2 : QGSs q G k st2 U) : QGS q G k (.If c st1 st2 pos) (ifS t T U) := by
  intro A s E env rm pe r
  cases et : t env with
  | er c => exact ⟨fun d z => (by rw [e_ifS, et] at z; cases z), fun d z => (by rw [e_ifS, et] at z; cases z)⟩
  | no => exact ⟨fun d z => (by rw [e_ifS, et] at z; cases z), fun d z => (by rw [e_ifS, et] at z; cases z)⟩
  | ok bb =>
    cases bb with
    | true =>
      refine ⟨fun d z => ?_, fun e' z => ?_⟩
      · rw [e_ifS, et] at z
        refine wpAny_If (thn (hc A s E env true rm r et) fun bv s1 ⟨z1, z2⟩ => ?_)
        subst z1
        exact thn ((h1 A s1 E env rm pe (r.keep z2)).1 d z) fun fl s2 ⟨u, y1, y2, y3, y4⟩ => ⟨u, y1, y2, oth_trans (oth_keeps z2) y3, y4⟩
      · rw [e_ifS, et] at z
        refine wpAny_If (thn (hc A s E env true rm r et) fun bv s1 ⟨z1, z2⟩ => ?_)
        subst z1
        exact thn ((h1 A s1 E env rm pe (r.keep z2)).2 e' z) fun fl s2 ⟨y1, y2, y3⟩ => ⟨y1, oth_trans (oth_keeps z2) y2, y3⟩
    | false =>
      refine ⟨fun d z => ?_, fun e' z => ?_⟩
      · rw [e_ifS, et] at z
        refine wpAny_If (thn (hc A s E env false rm r et) fun bv s1 ⟨z1, z2⟩ => ?_)
        subst z1
        exact thn ((h2 A s1 E env rm pe (r.keep z2)).1 d z) fun fl s2 ⟨u, y1, y2, y3, y4⟩ => ⟨u, y1, y2, oth_trans (oth_keeps z2) y3, y4⟩
      · rw [e_ifS, et] at z
        refine wpAny_If (thn (hc A s E env false rm r et) fun bv s1 ⟨z1, z2⟩ => ?_)
        subst z1
        exact thn ((h2 A s1 E env rm pe (r.keep z2)).2 e' z) fun fl s2 ⟨y1, y2, y3⟩ => ⟨y1, oth_trans (oth_keeps z2) y2, y3⟩
/-- the frame takes a value -/
theorem QG.store {env : En} {s : Shared} {m : Str → Option Value} {h' : Heap} {tk : Nat} {x : Str} {i : Nat} {u : Value} {d : D} (bk : ∀ b o, q.base.get? b = some o → G.get? b = some o) (f : Fr G q.env.locals s.heap m)
    (hm : ∀ i x d, q.N i = some x → env[i]? = some (some (.v (.fr d))) → ∃ u, m x = some u ∧ VD G u d) (hN : q.N i = some x) (inj : ∀ j, q.N j = some x → j = i) (hl : ∀ i x, q.N i = some x → i < env.length) (hv : VD G u d)
    (ns : h'.Ns q.env.locals fun y => if y = x then some u else m y) (sb : Heap.SameBut q.env.locals s.heap h') : QG q G (env.set i (some (.v (.fr d)))) { heap := h', gens := s.gens, drawn := s.drawn, toks := tk, os := s.os } := by
  have hi := hl i x hN
  refine ⟨bk, fun j y h => by rw [List.length_set]; exact hl j y h, _, ⟨ns, fun b o e => ?_, f.above⟩, fun j y d' h1 h2 => ?_⟩
  · have hb : b ≠ q.env.locals := fun z => by
      have h1 := Heap.lt_size e
      rw [z] at h1
      exact absurd h1 (Nat.not_lt.mpr f.above)
    rw [sb.2 b hb]
    exact f.keep b o e
  · by_cases hj : j = i
    · subst hj
      rw [hN] at h1
      cases h1
      rw [List.getElem?_set_self hi] at h2
      cases h2
      exact ⟨u, if_pos rfl, hv⟩
    · have hy : y ≠ x := fun z => hj (inj j (z ▸ h1))
      rw [List.getElem?_set_ne (fun z => hj z.symm)] at h2
      obtain ⟨u', z1, z2⟩ := hm j y d' h1 h2
      exact ⟨u', (if_neg hy).trans z1, z2⟩
theorem qgs_set {x : Str} {pos' : Pos} (i : Nat) (o : QO q) (he : QGE q G k e f) (hN : q.N i = some x) (inj : ∀ j, q.N j = some x → j = i) (hv : q.env.kindOf x = some .local)
    (hs : swapsWith e (some (.Name x pos')) pos.line q.env = pure false := by rfl) : QGS q G k (.Assign [.Name x pos'] e pos) (asS i f) := by
  intro A s E env rm pe r
  refine ⟨fun d z => ?_, fun e' z => ?_⟩
  · rw [e_asS] at z
    cases ef : f env with
    | ok d' => rw [ef] at z; cases z
    | er c => rw [ef] at z; cases z
    | no => rw [ef] at z; cases z
  · rw [e_asS] at z
    cases ef : f env with
    | er c => rw [ef] at z; cases z
    | no => rw [ef] at z; cases z
    | ok d =>
      rw [ef] at z
      have z : SR.nx (env.set i (some (.v (.fr d)))) = .nx e' := z
      cases z
      refine wpAny_Assign_Name (thn (he A s E env d rm r ef) fun u s1 ⟨v1, k1⟩ => ?_) hs
      obtain ⟨m, f1, hm⟩ := (r.keep k1).loc
      refine wpAny_storeName_local hv f1.ns (fun h' ns sb => ?_) (by rw [o.kind]; rfl)
      exact ⟨rfl, oth_trans (oth_keeps k1) ⟨h', _, rfl, fun b o n e => (sb.2 b n).trans e⟩, QG.store r.bk f1 hm hN inj r.len v1 ns sb⟩
end
end DL
namespace DL
open PySem PySem.Spec PyProof PyProof.Rows L2
section
variable {q : QX} {G : Heap} {k : Nat} {pos px py : Pos} {x y : Str} {body : List Stmt} {T : En → SR}
/-- the stand of a loop: the slots' values lie in G -/
def QL (q : QX) (G : Heap) (env : En) (m : Str → Option Value) : Prop := ∀ i x d, q.N i = some x → env[i]? = some (some (.v (.fr d))) → ∃ u, m x = some u ∧ VD G u d
theorem forF_nx {b : D → En → Option En} {T : En → SR} {d : D} {ds : List D} {env e' : En} (h : forF b T (d :: ds) env = .nx e') (hb : ∀ env' e2, T env' ≠ .bk e2) : ∃ e1 e2, b d env = some e1 ∧ (T e1 = .nx e2 ∨ T e1 = .ct e2) ∧ forF b T ds e2 = .nx e' := by
  rw [forF] at h
  cases e1 : b d env with
  | none => rw [e1] at h; cases h
  | some env1 =>
    rw [e1] at h
    dsimp only at h
    cases e2 : T env1 with
    | nx e => rw [e2] at h; exact ⟨env1, e, rfl, .inl e2, h⟩
    | ct e => rw [e2] at h; exact ⟨env1, e, rfl, .inr e2, h⟩
    | bk e => exact absurd e2 (hb _ _)
    | rt s => rw [e2] at h; cases h
    | er c e => rw [e2] at h; cases h
    | no => rw [e2] at h; cases h
/-- what of s lies neither in G nor in the frame -/
def rest0 (h G : Heap) (L : Addr) : List (Addr × Obj) := (List.range h.objs.size).filterMap fun b => match h.get? b with
  | some o => if b = L then none else match G.get? b with
    | none => some (b, o)
    | some _ => none
  | none => none
theorem rest0_mem {h G : Heap} {L : Addr} {p : Addr × Obj} (hp : p ∈ rest0 h G L) : h.get? p.1 = some p.2 ∧ p.1 ≠ L ∧ G.get? p.1 = none := by
  obtain ⟨b, _, e⟩ := List.mem_filterMap.mp hp
  cases e1 : h.get? b with
  | none => rw [e1] at e; cases e
  | some o =>
    rw [e1] at e
    dsimp only at e
    by_cases hb : b = L
    · rw [if_pos hb] at e; cases e
    · rw [if_neg hb] at e
      cases e2 : G.get? b with
      | some _ => rw [e2] at e; cases e
      | none =>
        rw [e2] at e
        cases e
        exact ⟨e1, hb, e2⟩
theorem rest0_of {h G : Heap} {L b : Addr} {o : Obj} (e1 : h.get? b = some o) (hb : b ≠ L) (e2 : G.get? b = none) : (b, o) ∈ rest0 h G L := by
  refine List.mem_filterMap.mpr ⟨b, List.mem_range.mpr (Heap.lt_size e1), ?_⟩
  rw [e1]
  dsimp only
  rw [if_neg hb, e2]
/-- for x in y: a list; the body goes on each time -/
theorem qgs_for (o : QO q) (i iy : Nat) (hNy : q.N iy = some y) (hvy : q.env.kindOf y = some .local) (hN : q.N i = some x) (inj : ∀ j, q.N j = some x → j = i) (hv : q.env.kindOf x = some .local) (hpl : plainStmts body = true)
    (hb : QGSs q G k body T) (hT : ∀ e e2, T e ≠ .bk e2 ∧ T e ≠ .ct e2) (hlen : ∀ e e2, T e = .nx e2 → e2.length = e.length) (hd : (y == ("__debug__" : Str)) = false := by rfl)
    (hs : ∀ z, foldedSetIterable (.Name y py) q.env z = pure z := by intro _; rfl) :
    ∀ (A : Around) (s : Shared) (E : Value → Shared → Prop) (env : En) (ds : List D) (e' : En), Room k A → A.handled = none → PassesOwn (model q.P q.w) A q.env E → QG q G env s → vf iy env = .ok (.list ds) → i < env.length → forF (setN i) T ds env = .nx e' →
      wpAny (model q.P q.w) A (exec (.For (.Name x px) (.Name y py) body [] pos) q.env) (fun fl s' => fl = .next ∧ Oth q.env.locals s s' ∧ QG q G e' s') E s := by
  intro A s E env ds e' rm ah pe r hy hi hf
  obtain ⟨m, f, hm⟩ := r.loc
  obtain ⟨u, hu, vu⟩ : ∃ u, m y = some u ∧ VD G u (.list ds) := by
    unfold vf at hy
    split at hy
    · rename_i d' e2
      cases hy
      exact hm iy y _ hNy e2
    · cases hy
  cases vu with
  | @lst l us _ hz il vs =>
  have ils : s.heap.IsList l us.toArray := by obtain ⟨ob, e, c⟩ := il; exact ⟨ob, f.keep _ _ e, c⟩
  have hltG : l < G.objs.size := by obtain ⟨ob, e, _⟩ := il; exact Heap.lt_size e
  have hlt : l < s.heap.objs.size := by obtain ⟨ob, e, _⟩ := ils; exact Heap.lt_size e
  have hltL : q.env.locals < s.heap.objs.size := by obtain ⟨ob, _, _, e, _⟩ := f.ns; exact Heap.lt_size e
  have lenu : us.length = ds.length := vs.len
  refine For_invVFp hpl f hv (by rw [o.kind]; rfl) ?_ hs pe
  refine wpAny_Name (wpAny_loadName_local o.kind hvy f.ns hu ?_) hd
  refine wpAny_pyIter_list ils ?_
  have GI : G.get? s.heap.objs.size = none := by
    cases e : G.get? s.heap.objs.size with
    | none => rfl
    | some ob => exact absurd (Heap.lt_size (f.keep _ _ e)) (Nat.lt_irrefl _)
  refine ⟨s.heap.objs.size, [s.heap.objs.size, l], [s.heap.objs.size], us.toArray.size, _, _, m, rest0 s.heap G q.env.locals, fun i' m1 n1 => n1 = rest0 s.heap G q.env.locals ∧ ∃ env1 : En, env1.length = env.length ∧ QL q G env1 m1 ∧ forF (setN i) T (ds.drop i') env1 = .nx e', rfl, Walks.list ah s.heap.objs.size l (Nat.ne_of_lt hlt) us.toArray, ?_, ?_, ?_, ?_, ?_, ?_, ?_, ?_, ?_⟩
  · intro z
    rcases List.mem_cons.mp z with z | z
    · exact absurd z (Nat.ne_of_lt hltL)
    · have z := List.mem_singleton.mp z
      have := f.above
      rw [z] at this
      exact absurd hltG (Nat.not_lt.mpr this)
  · intro b hb
    rw [List.mem_singleton.mp hb]; exact GI
  · intro p hp z
    have h1 := (rest0_mem hp).1
    rw [List.mem_singleton.mp z] at h1
    exact absurd (Heap.lt_size h1) (Nat.lt_irrefl _)
  · exact ⟨⟨_, Heap.get?_push_size _ rfl, rfl, rfl⟩, ils.push _⟩
  · exact ⟨f.ns.push _, fun b ob e => Heap.get?_push_of_some _ (f.keep b ob e), f.above⟩
  · intro p hp
    obtain ⟨h1, h2, h3⟩ := rest0_mem hp
    exact ⟨Heap.get?_push_of_some _ h1, h2, h3⟩
  · exact ⟨rfl, env, rfl, hm, hf⟩
  · rintro i' v m1 n1 s1 own ⟨h1, tk1, rfl⟩ hi' hp ⟨rfl, env1, el, ql, hf1⟩ _ _ _ _ _ fr1 nw1
    have hiu : i' < us.length := by simpa using hi'
    have hid : i' < ds.length := by omega
    have ev : us[i']? = some v := by simpa using hp
    obtain ⟨d, ed, vd⟩ := vs.getU ev
    have edr : ds.drop i' = d :: ds.drop (i' + 1) := by
      rw [List.drop_eq_getElem_cons hid]
      rw [List.getElem?_eq_getElem hid] at ed
      cases ed; rfl
    rw [edr] at hf1
    obtain ⟨e1, e2, b1, b2, b3⟩ := forF_nx hf1 fun env' e2 => (hT env' e2).1
    cases b1
    rcases b2 with b2 | b2
    · have il2 : i < env1.length := by rw [el]; exact hi
      have r2 : QG q G (env1.set i (some (.v (.fr d)))) { heap := h1, gens := s.gens, drawn := s.drawn, toks := tk1, os := s.os } := by
        refine ⟨r.bk, fun j z h => by rw [List.length_set, el]; exact r.len j z h, _, fr1, fun j z d' g1 g2 => ?_⟩
        by_cases hj : j = i
        · subst hj
          rw [hN] at g1
          cases g1
          rw [List.getElem?_set_self il2] at g2
          cases g2
          exact ⟨v, if_pos rfl, vd⟩
        · have hy : z ≠ x := fun w => hj (inj j (w ▸ g1))
          rw [List.getElem?_set_ne (fun w => hj w.symm)] at g2
          obtain ⟨u', z1, z2⟩ := ql j z d' g1 g2
          exact ⟨u', (if_neg hy).trans z1, z2⟩
      refine thn ((hb A _ E _ rm pe r2).2 e2 b2) fun fl s2 ⟨z1, z2, z3⟩ => ?_
      subst z1
      obtain ⟨h2, t2, rfl, k2⟩ := z2
      obtain ⟨m2, f2, hm2⟩ := z3.loc
      refine ⟨rfl, h2, t2, m2, _, rfl, f2, fun p hp => ?_, fun p hp z => ?_, rfl, e2, ?_, hm2, b3⟩
      · obtain ⟨g1, g2, g3⟩ := nw1 p hp
        exact ⟨k2 _ _ g2 g1, g2, g3⟩
      · have h1 := (rest0_mem hp).1
        rw [List.mem_singleton.mp z] at h1
        exact absurd (Heap.lt_size h1) (Nat.lt_irrefl _)
      · rw [hlen _ _ b2, List.length_set, el]
    · exact absurd b2 (hT _ _).2
  · rintro h' tk m' n' fr' nw' _ ⟨rfl, env1, el, ql, hf1⟩
    have : ds.drop us.toArray.size = [] := by rw [List.size_toArray, lenu, List.drop_length]
    rw [this] at hf1
    cases hf1
    refine ⟨rfl, ⟨h', tk, rfl, fun b ob n e => ?_⟩, r.bk, fun j z h => by rw [el]; exact r.len j z h, m', fr', ql⟩
    cases eg : G.get? b with
    | some og =>
      have := f.keep b og eg
      rw [e] at this
      cases this
      exact fr'.keep b ob eg
    | none => exact (nw' _ (rest0_of e n eg)).1
end
end DL
namespace DL
open PySem PySem.Spec PyProof PyProof.Rows L2
/-- it goes on, or fails; the slots stay as many -/
def Go (T : En → SR) : Prop := ∀ e, (∃ e2, T e = .nx e2 ∧ e2.length = e.length) ∨ T e = .no ∨ ∃ c e2, T e = .er c e2
theorem fgE_len (e : En) : ∀ is : List Nat, (fgE e is).length = e.length
  | [] => rfl
  | i :: is => by show ((fgE e is).set i none).length = _; rw [List.length_set, fgE_len e is]
theorem go_nx : Go nxS := fun e => .inl ⟨e, rfl, rfl⟩
theorem go_asS {i : Nat} {f : En → R D} : Go (asS i f) := fun e => by
  rw [e_asS]
  cases f e with
  | ok d => exact .inl ⟨_, rfl, List.length_set⟩
  | er c => exact .inr (.inr ⟨c, e, rfl⟩)
  | no => exact .inr (.inl rfl)
theorem go_fn {is : List Nat} {T : En → SR} (h : Go T) : Go (fnS is T) := fun e => by
  rw [e_fnS]
  rcases h e with ⟨e2, h1, h2⟩ | h1 | ⟨c, e2, h1⟩
  · rw [h1]; exact .inl ⟨_, rfl, by rw [fgE_len, h2]⟩
  · rw [h1]; exact .inr (.inl rfl)
  · rw [h1]; exact .inr (.inr ⟨c, e2, rfl⟩)
theorem go_sq {T U : En → SR} (h1 : Go T) (h2 : Go U) : Go (sqS T U) := fun e => by
  rw [e_sqS]
  rcases h1 e with ⟨e2, q1, q2⟩ | q1 | ⟨c, e2, q1⟩
  · rw [q1]
    rcases h2 e2 with ⟨e3, z1, z2⟩ | z1 | ⟨c, e3, z1⟩
    · exact .inl ⟨e3, z1, by rw [z2, q2]⟩
    · exact .inr (.inl z1)
    · exact .inr (.inr ⟨c, e3, z1⟩)
  · rw [q1]; exact .inr (.inl rfl)
  · rw [q1]; exact .inr (.inr ⟨c, e2, rfl⟩)
theorem go_if {t : En → R Bool} {T U : En → SR} (h1 : Go T) (h2 : Go U) : Go (ifS t T U) := fun e => by
  rw [e_ifS]
  cases t e with
  | ok b => cases b with
    | true => exact h1 e
    | false => exact h2 e
  | er c => exact .inr (.inr ⟨c, e, rfl⟩)
  | no => exact .inr (.inl rfl)
theorem Go.rt {T : En → SR} (h : Go T) (e : En) (s : S) : T e ≠ .rt s := fun z => by
  rcases h e with ⟨e2, h1, _⟩ | h1 | ⟨c, e2, h1⟩ <;> rw [h1] at z <;> cases z
theorem Go.bk {T : En → SR} (h : Go T) (e e2 : En) : T e ≠ .bk e2 := fun z => by
  rcases h e with ⟨e2, h1, _⟩ | h1 | ⟨c, e2, h1⟩ <;> rw [h1] at z <;> cases z
theorem Go.ct {T : En → SR} (h : Go T) (e e2 : En) : T e ≠ .ct e2 := fun z => by
  rcases h e with ⟨e2, h1, _⟩ | h1 | ⟨c, e2, h1⟩ <;> rw [h1] at z <;> cases z
theorem Go.len {T : En → SR} (h : Go T) {e e2 : En} (z : T e = .nx e2) : e2.length = e.length := by
  rcases h e with ⟨e3, h1, h2⟩ | h1 | ⟨c, e3, h1⟩
  · rw [h1] at z; cases z; exact h2
  · rw [h1] at z; cases z
  · rw [h1] at z; cases z
/-- the items of a list -/
def seqL (f : En → R D) : En → R (List D) := fun env => (f env).bind fun d => match d with
  | .list ds => .ok ds
  | _ => .no
theorem forF_rt {i : Nat} {T : En → SR} (h : Go T) : ∀ (ds : List D) (e : En) (s : S), forF (setN i) T ds e ≠ .rt s
  | [], e, s, z => by cases z
  | d :: ds, e, s, z => by
    rw [forF] at z
    have z : (match T (e.set i (some (.v (.fr d)))) with
      | .nx e => forF (setN i) T ds e
      | .ct e => forF (setN i) T ds e
      | .bk e => .nx e
      | .rt s => .rt s
      | .er c e => .er c e
      | .no => .no) = .rt s := z
    rcases h (e.set i (some (.v (.fr d)))) with ⟨e2, h1, h2⟩ | h1 | ⟨c, e2, h1⟩
    · rw [h1] at z; exact forF_rt h ds e2 s z
    · rw [h1] at z; cases z
    · rw [h1] at z; cases z
section
variable {q : QX} {G : Heap} {k : Nat} {pos px py : Pos} {x y : Str} {st : Stmt} {sts body : List Stmt} {T : En → SR}
theorem QG.forget {env : En} {s : Shared} (r : QG q G env s) (is : List Nat) : QG q G (fgE env is) s := by
  obtain ⟨m, f, h⟩ := r.loc
  refine ⟨r.bk, fun i x h => by rw [fgE_len]; exact r.len i x h, m, f, fun i x d h1 h2 => h i x d h1 ?_⟩
  induction is with
  | nil => exact h2
  | cons j is ih =>
    have h2 : ((fgE env is).set j none)[i]? = some (some (.v (.fr d))) := h2
    rw [List.getElem?_set] at h2
    split at h2
    · split at h2 <;> cases h2
    · exact ih h2
theorem qgss_fin (is : List Nat) (h : QGSs q G k sts T) (hr : ∀ e s, T e ≠ .rt s) : QGSs q G k sts (fnS is T) := by
  intro A s E env rm pe r
  have r1 := h A s E env rm pe r
  refine ⟨fun d z => ?_, fun e' z => ?_⟩
  · rw [e_fnS] at z
    cases e : T env with
    | rt t => exact absurd e (hr _ _)
    | _ => rw [e] at z; cases z
  · rw [e_fnS] at z
    cases e : T env with
    | nx e1 =>
      rw [e] at z
      have z : SR.nx (fgE e1 is) = .nx e' := z
      cases z
      exact thn (r1.2 e1 e) fun fl s1 ⟨z1, z2, z3⟩ => ⟨z1, z2, z3.forget is⟩
    | _ => rw [e] at z; cases z
theorem qgs_forL (o : QO q) (i iy : Nat) (is : List Nat) (hNy : q.N iy = some y) (hvy : q.env.kindOf y = some .local) (hN : q.N i = some x) (inj : ∀ j, q.N j = some x → j = i) (hv : q.env.kindOf x = some .local) (hpl : plainStmts body = true)
    (hb : QGSs q G k body T) (hg : Go T) (hd : (y == ("__debug__" : Str)) = false := by rfl)
    (hs : ∀ z, foldedSetIterable (.Name y py) q.env z = pure z := by intro _; rfl) :
    QGS q G k (.For (.Name x px) (.Name y py) body [] pos) (fgS is (forS (seqL (vf iy)) (setN i) (fnS is T))) := by
  have gf := go_fn (is := is) hg
  have hb2 : QGSs q G k body (fnS is T) := qgss_fin is hb hg.rt
  intro A s E env rm pe r
  rw [e_fgS, e_forS]
  have no : ∀ r : R (List D), (∀ ds, r ≠ .ok ds) → (∀ d, (r.st (fgE env is) fun ds => forF (setN i) (fnS is T) ds (fgE env is)) ≠ .rt d) ∧ ∀ e', (r.st (fgE env is) fun ds => forF (setN i) (fnS is T) ds (fgE env is)) ≠ .nx e' := fun r hr => by
    cases r with
    | ok ds => exact absurd rfl (hr ds)
    | er c => exact ⟨fun d z => (by cases z), fun d z => (by cases z)⟩
    | no => exact ⟨fun d z => (by cases z), fun d z => (by cases z)⟩
  cases es : seqL (vf iy) (fgE env is) with
  | er c => exact ⟨fun d z => (no (.er c) (fun _ z => by cases z)).1 _ z |>.elim, fun d z => (no (.er c) (fun _ z => by cases z)).2 _ z |>.elim⟩
  | no => exact ⟨fun d z => (no .no (fun _ z => by cases z)).1 _ z |>.elim, fun d z => (no .no (fun _ z => by cases z)).2 _ z |>.elim⟩
  | ok ds =>
    have ev : vf iy (fgE env is) = .ok (.list ds) := by
      unfold seqL at es
      obtain ⟨d, h1, h2⟩ := bind_ok es
      cases d with
      | list xs => cases h2; exact h1
      | _ => cases h2
    rw [R.st_ok]
    refine ⟨fun d z => absurd z (forF_rt gf _ _ _), fun e' z => ?_⟩
    exact qgs_for o i iy hNy hvy hN inj hv hpl hb2 (fun e e2 => ⟨gf.bk e e2, gf.ct e e2⟩) (fun e e2 z => gf.len z) hd hs A s E (fgE env is) ds e' rm rm.hd pe (r.forget is) ev (by rw [fgE_len]; exact r.len i x hN) z
end
theorem nd_inj {N : List Str} {i : Nat} {x : Str} (h : N.Nodup) (hi : N[i]? = some x) : ∀ j, N[j]? = some x → j = i := fun j hj => by
  obtain ⟨a1, a2⟩ := List.getElem?_eq_some_iff.mp hi
  obtain ⟨b1, b2'⟩ := List.getElem?_eq_some_iff.mp hj
  exact (List.getElem_inj h).mp (b2'.trans a2.symm)
section
variable {P : Program} {w : World} {K : PySem.W.Frag} {mg : Str → Option Value} {base : Heap}
theorem qfs_mk [Tabs] {x : Str} {st : Stmt} {N ps : List Str} {k : Nat} {T : En → SR} (M : Mod K mg base) (F0 : Fd K mg x st ps) (S : FnScope N ps (defScope st)) (hl : ∀ y ∈ ps, (defScope st).names.lookup y = some .local)
    (hT : ∀ (env : Env) (G : Heap), env.scope = defScope st → env.globals = mainGlobals → QGSs ⟨P, w, K, mg, base, env, fun i => N[i]?⟩ G k (defBody st) T) : QFS P w K mg base (k + 1) x ps.length (bodyR N ps.length T) := by
  obtain ⟨f, fd, h1, h2, h3⟩ := F0.ex
  obtain ⟨oc, od, kV, doc, pm, an, cdv, ct, osl, rfl, lk, hcd⟩ := h1.ex
  refine ⟨f, h2, h1.kp, fun A s G us ds d rm hb hG hsz hn hv hg => ?_⟩
  have inH : K.In s.heap := M.kin.keeps fun b o e => hG b o (hb b o e)
  have noL : s.heap.NoLimit := M.nolimit.keeps fun b o e => hG b o (hb b o e)
  have hz : (us ++ []).length = ps.length := by rw [List.append_nil]; exact hn
  have bb := h3 s us inH hz
  rw [List.append_nil] at bb
  have kinds : ∀ z ∈ ps.zip us, (defScope st).names.lookup z.1 = some .local ∨ ((defScope st).names.lookup z.1 = some .cell ∧ ((cellsFrom (s.heap.objs.size + 1) (defScope st).names []).lookup z.1).isSome = true) := by
    rintro ⟨n, u⟩ hz
    exact .inl (hl n (List.of_mem_zip hz).1)
  refine codeAny_call_function rm.depth (inH _ _ lk) rfl S.co S.gen rfl (PySem.W.codeRec_of inH hcd) (bb _ _ _ _ ?_)
  refine wpAny_newFunctionEnv_cells S.kind kinds fun env1 eq1 s1 made => ?_
  have ndP : ps.Nodup := by rw [← S.pre]; exact S.nd.sublist (List.take_sublist _ _)
  have kd : ∀ y ∈ ps, env1.kindOf y = some .local := fun y hy => by subst eq1; exact hl y hy
  have e1 : env1.scope = defScope st := by subst eq1; rfl
  have e2 : env1.globals = mainGlobals := by subst eq1; rfl
  refine ⟨noL.keeps made.toInCall.keep, codeAny_func ?_⟩
  have kp : Keeps s s1 := made.toInCall.done
  have hd : us.length = ds.length := hv.len
  have hn2 : ds.length = ps.length := hd.symm.trans hn
  have Lnew : s.heap.objs.size ≤ env1.locals := by subst eq1; exact made.toInCall.fresh
  have hr : QG ⟨P, w, K, mg, base, env1, fun i => N[i]?⟩ G (init N ds) s1 := by
    refine ⟨hb, fun i y h => ?_, _, ⟨by subst eq1; exact made.toInCall.ns, fun b o e => kp_heap kp b o (hG b o e), Nat.le_trans hsz Lnew⟩, fun i y d' h4 h5 => ?_⟩
    · have h1 : i < N.length := (List.getElem?_eq_some_iff.mp h).1
      unfold init
      rw [List.length_append, List.length_map, List.length_replicate]
      omega
    have hi : i < ds.length := by
      refine Nat.lt_of_not_le fun z => ?_
      unfold init at h5
      rw [List.getElem?_append_right (by simpa using z)] at h5
      rw [List.getElem?_replicate] at h5
      split at h5 <;> cases h5
    unfold init at h5
    rw [List.getElem?_append_left (by simpa using hi), List.getElem?_map] at h5
    have h6 : ds[i]? = some d' := by
      cases z : ds[i]? with
      | none => rw [z] at h5; cases h5
      | some d0 => rw [z] at h5; cases h5; rfl
    have h7 : ps[i]? = some y := by
      have : (N.take ps.length)[i]? = some y := by rw [List.getElem?_take, if_pos (by omega)]; exact h4
      rw [S.pre] at this; exact this
    obtain ⟨u, z1, z2⟩ := hv.get h6
    exact ⟨u, bindL_get ndP h7 z1 (hl y (List.mem_of_getElem? h7)), z2⟩
  unfold bodyR at hg
  rw [if_pos hn2] at hg
  have done : ∀ {s2 : Shared}, Oth env1.locals s1 s2 → Keeps s s2 := fun {s2} ot => by
    obtain ⟨h1', t1, q1, k1⟩ := kp
    obtain ⟨h2', t2, q2, k2⟩ := ot
    subst q1
    refine ⟨h2', t2, q2, fun b o e => k2 b o (fun z => ?_) (k1 b o e)⟩
    have := Heap.lt_size e
    rw [z] at this
    exact absurd this (Nat.not_lt.mpr Lnew)
  have body := fun E pe => hT env1 G e1 e2 (A.deeper env1) s1 E (init N ds) (rm.deeper _) pe hr
  cases eT : T (init N ds) with
  | rt t =>
    rw [eT] at hg
    have hg : R.ok t = .ok (.fr d) := hg
    cases hg
    exact wpAny_mono ((body _ (passes_of (X := ⟨P, w, K, mg, base, A.deeper env1, [], s, fun _ => none, env1, [], [], [], fun _ => false, false, [], _⟩) rfl)).1 d eT) (fun fl s2 ⟨u, z1, z2, z3, _⟩ => by subst z1; exact ⟨u, rfl, z2, done z3⟩) fun _ _ z => z
  | nx e' =>
    rw [eT] at hg
    have hg : R.ok (DL.S.fr .none) = .ok (.fr d) := hg
    cases hg
    exact wpAny_mono ((body _ (passes_of (X := ⟨P, w, K, mg, base, A.deeper env1, [], s, fun _ => none, env1, [], [], [], fun _ => false, false, [], _⟩) rfl)).2 e' eT) (fun fl s2 ⟨z1, z2, _⟩ => by subst z1; exact ⟨.none, rfl, .non, done z2⟩) fun _ _ z => z
  | er c e' => rw [eT] at hg; cases hg
  | bk e' => rw [eT] at hg; cases hg
  | ct e' => rw [eT] at hg; cases hg
  | no => rw [eT] at hg; cases hg
end
end DL
namespace DL
open PySem PySem.Spec PyProof PyProof.Rows L2
variable [Tabs]
/-! ### any, all of a generator expression over one list -/
structure GenS1 (env : Env) (scope : Scope) (xa : Str) : Prop where
  kind : scope.kind = .function
  co : scope.isCoroutine = false
  cell : ∀ y ∈ scope.names, y.2 ≠ .cell
  dot : scope.names.lookup (".0" : Str) = some NameKind.local
  la : scope.names.lookup xa = some .local
  free : ∀ y ∈ scope.names, y.2 = .free → ∃ c, env.cells.lookup y.1 = some c
theorem genS1_of {env : Env} {scope : Scope} {xa : Str} (k : scope.kind = .function) (c : scope.isCoroutine = false) (n : (scope.names.all fun y => match y.2 with | .cell => false | .free => false | _ => true) = true)
    (d : scope.names.lookup (".0" : Str) = some NameKind.local) (la : scope.names.lookup xa = some .local) : GenS1 env scope xa := by
  have h := List.all_eq_true.mp n
  exact ⟨k, c, fun y hy z => (by have := h y hy; rw [z] at this; cases this), d, la, fun y hy z => (by have := h y hy; rw [z] at this; cases this)⟩
section
variable {X : Cx} {W : WX} {k : Nat} {m : Md} {pins : List (Addr × Obj)} {σ : L2.St}
theorem gen_list {c P : Addr} {e1 elt : Expr} {xa : Str} {pa gpos : Pos} {ia : Nat} {scope : Scope} {f1 fe : En → R D} {B F H : Hp} {env : En} {s : Shared} {ks : List Bool} {Q' : Value → Shared → Prop}
    (hr : Room (k + 1) X.A) (TB : GxR.TabB X.base X.mg c P) (hcode : X.env.code = .ref c) (hP : P ∈ Tabs.T) (S : GenS1 X.env scope xa) (ha : DE X W .f e1 f1) (hla : ia < env.length)
    (hel : ∀ cenv : Env, cenv.scope = scope → cenv.globals = mainGlobals → QDE ⟨X.prog, X.w, X.K, X.mg, X.base, cenv, fun i => if i = ia then some xa else none⟩ k elt fe)
    (hs : ∀ v, genFold e1 X.env v = pure v)
    (I : Inv X pins σ H s) (r : Rel X.K B F H env σ) {xs : List D} (hf1 : f1 env = .ok (.list xs)) (hks : anyF (setN ia) fe (wipeE env [ia]) xs = .ok ks)
    (hQ : ∀ F1 H1 g s5, After F H F1 H1 → GRdy X pins σ F1 H1 ks g s5 → Q' (.ref g) s5) :
    wpAny (model X.prog X.w) X.A (eval (.GeneratorExp elt [⟨.Name xa pa, e1, [], 0⟩] scope gpos) X.env) Q' X.xe s := by
  obtain ⟨hlen, hget⟩ := anyF_get hks
  refine wpAny_GeneratorExp_walksQD hr.hd S.co (closure_ok S.free) S.cell S.dot S.la S.kind hr.depth ?_ hs
  have arg : tD X.K (ecOf X.mg) W .f f1 σ H (fun v H1 => ∃ F1, After F H F1 H1 ∧ Dp X.K F1 v (.list xs)) := by
    refine ⟨B, F, env, r, ?_⟩
    rw [hf1]
    exact fun v H1 F1 a rl => ⟨F1, a, rl⟩
  refine thn (ha.run pins s σ H _ I arg) fun u1 s1 ⟨v1, H1, I1, rv, F1, a, d1⟩ => ?_
  have w1 : VD s1.heap u1 (.list xs) := VD.ofDp I1 a.fh _ _ _ d1 rv
  cases w1 with
  | @lst l1 its1 _ hz1 il1 vd1 =>
  -- the table
  have r1 : Rel X.K B F1 H1 env σ := r.after a
  obtain ⟨ps, hPs, ht⟩ := r1.bh.tgH P hP
  have hPh : s1.heap.get? P = some { cls := .none, data := .fields ps } := I1.hok P _ hPs
  have lt1 : l1 < s1.heap.objs.size := by obtain ⟨o, e, _⟩ := il1; exact Heap.lt_size e
  have ne1 : l1 ≠ P := fun z => by
    obtain ⟨o, e, c, _⟩ := il1
    rw [z, hPh] at e; cases e; cases c
  have ltP : P < s1.heap.objs.size := Heap.lt_size hPh
  refine wpAny_pyIter_list il1 ?_
  obtain ⟨h2, hh2⟩ : ∃ h2, h2 = s1.heap.push { cls := Value.type "list_iterator", data := Data.fields #[Value.ref l1, Value.int 0 0] } := ⟨_, rfl⟩
  have hk2 : ∀ b u, s1.heap.get? b = some u → h2.get? b = some u := fun b u e => by rw [hh2]; exact Heap.get?_push_of_some _ e
  have hit : h2.IsListIter s1.heap.objs.size l1 0 := by rw [hh2]; exact ⟨_, Heap.get?_push_size _ rfl, rfl, rfl⟩
  have hsz2 : h2.objs.size = s1.heap.objs.size + 1 := by rw [hh2]; exact Heap.size_push ..
  rw [← hh2]
  have I2 : Inv X pins σ H1 { s1 with heap := h2 } := I1.kept (t' := s1.toks) hk2
  refine ⟨I2.nolimit, ?_⟩
  have hP2 : h2.get? P = some { cls := .none, data := .fields ps } := hk2 _ _ hPh
  have cdh : PySem.W.CodeHd h2 c P := TB.code.keeps fun b u e => hk2 b u (I1.bk b u e)
  have goOn : ∀ (code : Value) (h3 : Heap) (tk : Nat) (more : Array Value), Heap.ExtBut P h2 h3 → h2.objs.size ≤ h3.objs.size → h3.get? P = some { cls := .none, data := .fields (ps ++ more) } → TriplesOk (ps ++ more).toList →
      wpAny (model X.prog X.w) X.A (builtinsFor X.env.globals X.env.builtins) (fun bi s₄ =>
        ∃ Ia fp wr n₀ Pt St₀ pz Fv, Value.ref s1.heap.objs.size = .ref Ia ∧ (∀ A' : Around, A'.handled = none → Walks X.prog X.w A' Ia fp wr n₀ Pt St₀) ∧ St₀ 0 s₄.heap ∧ (∀ b ∈ fp, b < s₄.heap.objs.size) ∧ s₄.heap.NoLimit ∧ cStatics ∉ wr ∧
          (∀ href : Heap, (∀ b o, s₄.heap.get? b = some o → href.get? b = some o) →
            QuietGenD X.prog X.w (genEnv scope (cloFrom X.env.cells scope.names []) s₄.heap.objs.size code bi X.env) xa [] elt (List.range s₄.heap.objs.size) wr Pt pz Fv href (X.A.depth + 1) (X.A.units + 8)) ∧
          (∀ g h₅ tk gs, gs.bare = true → s₄.heap.objs.size < g → h₅.objs.size = g + 1 → (∀ b o, s₄.heap.get? b = some o → h₅.get? b = some o) →
            WalksS X.prog X.w X.A.in4 g (g :: s₄.heap.objs.size :: List.range s₄.heap.objs.size) (s₄.heap.objs.size :: wr) (GenOnlyQ s₄.gens.size) (passing pz n₀ 0).length
              (fun j y => ∃ i, (passing pz n₀ 0)[j]? = some i ∧ Fv i y) (GenAt X.prog X.w X.A.in4 g s₄.gens.size s₄.heap.objs.size (List.range s₄.heap.objs.size) wr pz n₀ Fv) →
            GenAt X.prog X.w X.A.in4 g s₄.gens.size s₄.heap.objs.size (List.range s₄.heap.objs.size) wr pz n₀ Fv 0 { s₄ with gens := s₄.gens.push gs, toks := tk, heap := h₅ } →
            Q' (.ref g) { s₄ with gens := s₄.gens.push gs, toks := tk, heap := h₅ })) X.xe { s1 with heap := h3, toks := tk } := by
    intro code h3 tk more hx hge hP3 ht3
    obtain ⟨mm, mo, b1, b2', b3, b4, b5, b6, b7, b8⟩ := TB.bm
    have stP : cStatics ≠ P := fun z => by
      obtain ⟨_, nn, _⟩ := I1.nolimit
      obtain ⟨o', es, ep, ho, hd, _⟩ := nn
      rw [z, hPh] at ho; cases ho; cases hd
    have stlt : cStatics < s1.heap.objs.size := by
      obtain ⟨_, nn, _⟩ := I1.nolimit
      exact nn.lt
    have old3 : ∀ b u, b ≠ P → s1.heap.get? b = some u → h3.get? b = some u := fun b u hb e => hx b u hb (hk2 b u e)
    refine wpAny_builtinsFor (m := X.mg) (by rw [I1.ok.glob]; exact (I2.mod.glob.keeps I2.bk).extBut hx TB.gP) b1 b2' (old3 _ _ b4 (I1.bk _ _ b5)) b6 b7 b8 ?_
    have Wk := fun (A' : Around) (hA : A'.handled = none) => Walks.list (prog := X.prog) (w := X.w) hA s1.heap.objs.size l1 (Nat.ne_of_lt lt1) its1.toArray
    have big : ∀ b, s1.heap.objs.size ≤ b → b ≠ P := fun b hb z => by rw [z] at hb; exact absurd ltP (Nat.not_lt.mpr hb)
    have hn : its1.toArray.size = ks.length := by
      rw [← hlen]; simp [vd1.len]
    refine ⟨s1.heap.objs.size, _, _, _, _, _, (fun _ => true), (fun i y => ∃ kk, ks[i]? = some kk ∧ y = .bool kk), rfl, Wk, ?_, ?_, I2.nolimit.extBut hx stP, ?_, ?_, ?_⟩
    · refine (Wk X.A hr.hd).frame _ _ _ ⟨hit, by rw [hh2]; exact il1.push _⟩ fun b hb u e => hx b u (fun z => ?_) e
      simp only [List.mem_cons, List.not_mem_nil, or_false] at hb
      rcases hb with y | y
      · exact big b (by rw [y]; exact Nat.le_refl _) z
      · exact ne1 (y.symm.trans z)
    · intro b hb
      show b < h3.objs.size
      have sz : s1.heap.objs.size < h3.objs.size := by omega
      simp only [List.mem_cons, List.not_mem_nil, or_false] at hb
      rcases hb with y | y
      · rw [y]; exact sz
      · rw [y]; exact Nat.lt_trans lt1 sz
    · intro z
      rw [List.mem_singleton.mp z] at stlt; exact absurd stlt (Nat.lt_irrefl _)
    · intro href hhr
      have hm4 : ∀ b o, b ≠ P → s1.heap.get? b = some o → b ∈ List.range h3.objs.size ∧ b ∉ [s1.heap.objs.size] ∧ href.get? b = some o := fun b o hb e => by
        have l := Heap.lt_size e
        refine ⟨List.mem_range.mpr (Heap.lt_size (old3 b o hb e)), fun z => ?_, hhr b o (old3 b o hb e)⟩
        rw [List.mem_singleton.mp z] at l; exact absurd l (Nat.lt_irrefl _)
      refine ⟨fun A' E' i va s₂ m₂ hA _ _ hp hns hma hk => ?_, fun A' E' i va s₂ m₂ hA hD hU hp hpz hns hma hk => ?_⟩
      · simp only [List.forIn_nil]
        exact wpAny_pure ⟨rfl, kp_refl _⟩
      · have keepTo : ∀ b o, b ≠ P → s1.heap.get? b = some o → s₂.heap.get? b = some o := fun b o hb e => hk b (hm4 b o hb e).1 (hm4 b o hb e).2.1 o (hm4 b o hb e).2.2
        obtain ⟨da, hda, vda⟩ := vd1.getU (i := i) (by simpa using hp)
        obtain ⟨en, kk, g1, g2, g3⟩ := hget i _ hda
        have hen : en = (wipeE env [ia]).set ia (some (.v (.fr da))) := by
          have : setN ia da (wipeE env [ia]) = some ((wipeE env [ia]).set ia (some (.v (.fr da)))) := rfl
          rw [this] at g1; exact (Option.some.inj g1).symm
        have rm : Room k A' := ⟨hA, by have := hr.dp; omega, by have := hr.un; omega⟩
        have cls : ∀ {v : Value} {d : D}, VD s1.heap v d → VD s₂.heap v d := fun v => VD.keepC (fun b o hc e => keepTo b o (fun z => by rw [z, hPh] at e; cases e; exact hc rfl) e) _ _ v
        have hl : (wipeE env [ia]).length = env.length := by simp
        refine wpAny_mono (hel (genEnv scope (cloFrom X.env.cells scope.names []) h3.objs.size code builtinsNs X.env) rfl (show X.env.globals = mainGlobals from I1.ok.glob) A' s₂ E' en (.bool kk) rm ⟨fun b o e => keepTo b o (fun z => ?_) (I1.bk b o e), m₂, hns, fun j x d h4 h5 => ?_⟩ g2) (fun y s3 ⟨q1, q2⟩ => ⟨⟨kk, g3, ?_⟩, q2⟩) fun _ _ z => z
        · have := (I1.bs b o e).2
          rw [z, hPs] at this; cases this
        · rw [hen] at h5
          dsimp only at h4
          by_cases ja : j = ia
          · subst ja
            rw [if_pos rfl] at h4; cases h4
            rw [List.getElem?_set_self (by omega)] at h5
            cases h5
            exact ⟨va, hma, cls vda⟩
          · rw [if_neg ja] at h4; cases h4
        · cases q1; rfl
    · intro g h5 tk5 gs hgb hag hs5 hk5 W5 hat
      simp only [pass_all, List.length_range, hn] at W5
      rw [hn] at hat
      refine hQ F1 H1 g _ a ⟨_, _, _, _, _, W5.in4_1, hat, ?_, fun s' hm => ?_⟩
      · intro j y sj Qj Ej hy hQj
        obtain ⟨i, hij, kk, hkk, rfl⟩ := hy
        obtain ⟨hj, ej⟩ := List.getElem?_eq_some_iff.mp hij
        rw [List.getElem_range] at ej
        subst ej
        refine wpAny_truthy_bool ?_
        have hQ2 : Qj (ks.getD j false) sj := hQj
        rw [List.getD_eq_getElem?_getD, hkk] at hQ2
        exact hQ2
      · have nwr : ∀ b u, s1.heap.get? b = some u → b ∉ h3.objs.size :: [s1.heap.objs.size] := fun b u e hb => by
          have l := Heap.lt_size e
          have sz : s1.heap.objs.size ≤ h3.objs.size := by omega
          simp only [List.mem_cons, List.not_mem_nil, or_false] at hb
          rcases hb with y | y
          · rw [y] at l; exact absurd l (Nat.not_lt.mpr sz)
          · rw [y] at l; exact absurd l (Nat.lt_irrefl _)
        have J := GxR.inv_tab (more := more) (h' := s'.heap) (g' := s'.gens) (d' := s'.drawn) (t' := s'.toks) I1 hPs (fun b u hb e => hm.heap b u (nwr b u e) (hk5 b u (old3 b u hb e))) (hm.heap P _ (nwr P _ hPh) (hk5 P _ hP3)) (AllBare.movedS (I1.bare.push hgb) hm)
        rw [GxR.sh_eta s1 s' hm.os] at J
        have gr := Same.grow hPs ht3
        exact ⟨_, ⟨Same.refl _, a.fh.trans gr, gr, fun x o e n => by rw [n] at e; cases e⟩, J⟩
  cases hf : codeAmong gpos ps.toList with
  | none =>
    refine wpAny_genexprCodeX hcode (cdh.code hP2 ht) (cdh.tab hP2) hf fun c' h' tk hx hge hlt hco' _ htab' _ => ?_
    obtain ⟨_, _, _, _, _, _, _, _, _, _, _, _, _, _, _, _, _, _, _, htr, _⟩ := hco'
    exact goOn _ h' tk _ hx (Nat.le_trans hge (Nat.le_of_lt hlt)) htab'.2 htr
  | some cv =>
    refine wpAny_genexprCode_hit hcode (cdh.code hP2 ht) hf ?_
    exact goOn cv h2 s1.toks #[] (Heap.ExtBut.refl _ _) (Nat.le_refl _) (by rw [Array.append_empty]; exact hP2) (by rw [Array.append_empty]; exact ht)
/-- any(.. for a in list), all(..) -/
theorem de_gexL {all : Bool} {c P : Addr} {e1 elt : Expr} {xa : Str} {p pa gpos pos : Pos} {ia : Nat} {scope : Scope} {f1 fe : En → R D}
    (hr : Room (k + 1) X.A) (TB : GxR.TabB X.base X.mg c P) (hcode : X.env.code = .ref c) (hP : P ∈ Tabs.T) (S : GenS1 X.env scope xa) (ha : DE X W .f e1 f1) (hg : Gl X (if all then "all" else "any")) (hm : X.mg (if all then "all" else "any") = none)
    (hel : ∀ cenv : Env, cenv.scope = scope → cenv.globals = mainGlobals → QDE ⟨X.prog, X.w, X.K, X.mg, X.base, cenv, fun i => if i = ia then some xa else none⟩ k elt fe)
    (hla : ia < X.N.length := by exact Nat.le_of_ble_eq_true rfl)
    (hs : ∀ v, genFold e1 X.env v = pure v := by intro _; rfl)
    (he : starEach [.GeneratorExp elt [⟨.Name xa pa, e1, [], 0⟩] scope gpos] X.env = (false, eval (.GeneratorExp elt [⟨.Name xa pa, e1, [], 0⟩] scope gpos) X.env) :: starEach [] X.env := by rfl) :
    DE X W m (.Call (.Name (if all then "all" else "any") p) [.GeneratorExp elt [⟨.Name xa pa, e1, [], 0⟩] scope gpos] [] pos)
      (gexR [ia] (seqL f1) (setN ia) fe (if all then allK else anyK)) := by
  refine ⟨fun pins s σ H Q I ⟨B, F, env, r, q⟩ => ?_⟩
  have hlen : env.length = X.N.length := by
    obtain ⟨as, h1, _, _⟩ := r.sl
    rw [← h1.len, I.len]
  unfold gexR at q
  cases e0 : seqL f1 env with
  | no => rw [e0] at q; exact q.elim
  | er cc => rw [e0] at q; exact q.elim
  | ok xs =>
    rw [e0] at q
    dsimp only at q
    have e1' : f1 env = .ok (.list xs) := by
      unfold seqL at e0
      obtain ⟨d, h1, h2⟩ := bind_ok e0
      cases d with
      | list ys => cases h2; exact h1
      | _ => cases h2
    cases ek : anyF (setN ia) fe (wipeE env [ia]) xs with
    | no => rw [ek] at q; exact q.elim
    | er cc => rw [ek] at q; exact q.elim
    | ok ks =>
      rw [ek] at q
      have q : PoE X.K (ecOf X.mg) W m F H σ Q (.ok (.bool ((if all then allK else anyK) ks))) := q
      cases all with
      | false =>
        refine wpAny_Call_Name_kw (ld_blt I hg hm boot_any ?_)
        refine PyProof.Rows.callWith_builtin1 ?_ he (by rfl)
        rw [he]
        refine Calls.spliced_cons (gen_list hr TB hcode hP S ha (by omega) hel hs I r e1' ek fun F1 H1 g s5 a ⟨fp, wr, G, Fv, Sx, Wk, hst, htr, hI⟩ => ?_)
        refine Calls.spliced_nil ?_
        refine call_any_walkS (Wk.self 0 _ _ _ hst ⟨g, fp, wr, G, _, Fv, Sx, _, rfl, Wk, hst, htr, fun s' hmv => ?_⟩)
        obtain ⟨H2, a2, J⟩ := hI s' hmv
        refine ⟨.bl _, H2, J, rfl, ?_⟩
        rw [any_range]
        exact q _ _ _ (a.trans a2) (Rp.bl _)
      | true =>
        refine wpAny_Call_Name_kw (ld_blt I hg hm (by decide +kernel : bootBuiltins "all" = some (.builtin "all")) ?_)
        refine PyProof.Rows.callWith_builtin1 ?_ he (by rfl)
        rw [he]
        refine Calls.spliced_cons (gen_list hr TB hcode hP S ha (by omega) hel hs I r e1' ek fun F1 H1 g s5 a ⟨fp, wr, G, Fv, Sx, Wk, hst, htr, hI⟩ => ?_)
        refine Calls.spliced_nil ?_
        refine call_all_walkS (Wk.self 0 _ _ _ hst ⟨g, fp, wr, G, _, Fv, Sx, _, rfl, Wk, hst, htr, fun s' hmv => ?_⟩)
        obtain ⟨H2, a2, J⟩ := hI s' hmv
        refine ⟨.bl _, H2, J, rfl, ?_⟩
        rw [all_range]
        exact q _ _ _ (a.trans a2) (Rp.bl _)
end
end DL
namespace DL
open PySem PySem.Spec PyProof PyProof.Rows L2
section
variable {q : QX} {k : Nat} {pos p : Pos} {j : Nat} {a : Expr} {fa : En → R D}
/-- a is None, as a value -/
theorem qde_isN (ha : QDE q k a fa) (hm : behindInMarks .Is (.Constant .none j p) = false := by rfl) : QDE q k (.Compare a [.Is] [.Constant .none j p] pos) (b2 fa cN isD) := by
  intro A s E env c rm r e
  unfold b2 at e
  obtain ⟨d, e1, e2⟩ := bind_ok e
  have e2 : R.ok (PyData.bool (isNo d)) = .ok c := e2
  cases e2
  refine wpAny_Compare1 (thn (ha A s E env d rm r e1) fun u s1 ⟨v, k1⟩ => ?_) hm
  refine Constant_none ?_
  refine is_none_gen ⟨?_, k1⟩
  have hv : (u == Value.none) = isNo d := v.isN
  rw [← hv]
  exact .bl _
end
end DL
namespace DL
open PySem PySem.Spec PyProof.Rows L2
variable [Tabs]
/-! ### C(..) where only the outcome is told that __init__ raises -/
/-- of the rest nothing is said -/
def noS : En → SR := fun _ => .no
theorem dss_no {X : Cx} {W : WX} {sts : List Stmt} : DSs X W sts noS := ⟨fun _ _ _ _ _ _ ⟨_, _, _, _, p⟩ => p.elim⟩
@[simp] theorem e_noS (env : En) : noS env = .no := rfl
def initI (N : List Str) (ds : List D) : En := none :: (ds.map (fun d => some (.v (.fr d))) ++ List.replicate (N.length - (ds.length + 1)) none)
/-- a method's body of which the object is not looked at -/
def bodyI (N : List Str) (n : Nat) (T : En → SR) : List D → R S := fun ds => if ds.length + 1 = n then endR (T (initI N ds)) else .no
def PrI (K : PySem.W.Frag) (mg : Str → Option Value) (n : Nat) (g : List D → R S) (vs : List V) (H : Hp) (E : XK) : Prop := ∃ F v0 ws ds c, vs = v0 :: ws ∧ (vs.length = n ∧ Tg H) ∧ Same F H ∧ DpAll K F ws ds ∧ g ds = .er c ∧ ∀ H' F', After F H F' H' → E (ecOf mg c) none H'
structure FnI (P : Program) (w : World) (K : PySem.W.Frag) (mg : Str → Option Value) (base : Heap) (k : Nat) (f : Addr) (fd : FuncData) (ps : List Str) (g : List D → R S) : Prop where
  run : ∀ (A : Around) (outer : List Env) (s : Shared) (H : Hp) (us : List Value) (vs : List V) (Q : VK) (E : XK), Room k A → A.guards = some [] → Env0 P w K mg base A outer s H →
    BindsTo s fd ⟨us, []⟩ (ps.zip us) → Vals vs us → PrI K mg ps.length g vs H E → codeAny (model P w) A (.call (.ref f) ⟨us, []⟩) (CR (L2.CX P w) outer P w H s Q E) s
section
variable {P : Program} {w : World} {K : PySem.W.Frag} {mg : Str → Option Value} {base : Heap}
theorem fnI_mk {y qual : Str} {st : Stmt} {f : Addr} {fd : FuncData} {N ps : List Str} {k : Nat} {T : En → SR} (Fn : Fun K y qual st f fd) (S : FnScope N ps (defScope st))
    (hT : ∀ (f0 : Addr) (cdv : Value) (A : Around) (outer : List Env) (s : Shared) (H : Hp) (E : XK),
      Cxt (cxOf (L2.CX P w) P w K mg base N qual (defScope st) f0 cdv A outer s H E) (fun cls d _ H' => E cls d H') k → DSs (cxOf (L2.CX P w) P w K mg base N qual (defScope st) f0 cdv A outer s H E) (fun cls d _ H' => E cls d H') (defBody st) T) :
    FnI P w K mg base (k + 1) f fd ps (bodyI N ps.length T) := by
  obtain ⟨oc, od, kV, doc, pm, an, cdv, ct, osl, rfl, lk, hcd⟩ := Fn.ex
  refine ⟨fun A outer s H us vs Q E hr hgd e0 hb rv hp => ?_⟩
  obtain ⟨F, v0, ws, ds, c, rfl, ⟨hlen, htg⟩, hF, hd, hc, hq⟩ := hp
  have hu : us.length = ps.length := rv.length.symm.trans hlen
  have mIn : K.In s.heap := e0.mod.kin.keeps fun b o e => (e0.bs b o e).1
  have mNo : s.heap.NoLimit := e0.mod.nolimit.keeps fun b o e => (e0.bs b o e).1
  have kd : ∀ z ∈ ps.zip us, (defScope st).names.lookup z.1 = some .local ∨ ((defScope st).names.lookup z.1 = some .cell ∧ ((cellsFrom (s.heap.objs.size + 1) (defScope st).names []).lookup z.1).isSome = true) :=
    fun ⟨n, u⟩ hz => (S.par n (List.of_mem_zip hz).1).imp id fun q => ⟨q, PySem.W.cellsFrom_some _ _ _ (.inl q)⟩
  refine codeAny_call_function hr.depth (mIn _ _ lk) rfl S.co S.gen rfl (PySem.W.codeRec_of mIn hcd) (hb _ _ _ _ ?_)
  refine wpAny_newFunctionEnv_cells S.kind kd fun env1 eq1 s1 mk1 => ?_
  subst eq1
  refine ⟨mNo.keeps mk1.toInCall.keep, codeAny_func ?_⟩
  have J0 : Inv (cxOf (L2.CX P w) P w K mg base N qual (defScope st) f cdv A outer s H E) [] (L2.start N (v0 :: ws)) H s1 := inv_start S hr.hd e0 hlen rv mk1
  have cx : Cxt (cxOf (L2.CX P w) P w K mg base N qual (defScope st) f cdv A outer s H E) (fun cls d _ H' => E cls d H') k :=
    ⟨rfl, S.nd, takes_of rfl rfl rfl rfl, hr.deeper _, guards_deeper hgd, passes_of rfl⟩
  have bd := hT f cdv A outer s H E cx
  have rel0 : Rel K H F H (initI N ds) (L2.start N (v0 :: ws)) := by
    refine ⟨⟨Same.refl _, htg⟩, hF, [], ?_, .nil, fun a ha => by cases ha⟩
    have e : L2.start N (v0 :: ws) = some v0 :: (ws.map some ++ List.replicate (N.length - (ws.length + 1)) none) := rfl
    unfold initI
    rw [e, hd.len]
    exact .un (owEn_init hd)
  have hl2 : ds.length + 1 = ps.length := by rw [← hlen, ← hd.len]; rfl
  have hc2 : endR (T (initI N ds)) = .er c := by unfold bodyI at hc; rwa [if_pos hl2] at hc
  have rn := bd.run [] s1 (L2.start N (v0 :: ws)) H { nx := fun _ H' => Q .non H', rt := Q } J0 ⟨H, F, initI N ds, rel0, ?_⟩
  · refine wpAny_mono rn (fun fl s2 hs => ?_) fun u s2 hs => hs
    cases fl with
    | ret u =>
      obtain ⟨v, σ2, H2, J, rvu, qv⟩ := hs
      exact ⟨v, H2, J.os, J.bare, J.base, J.hok, rvu, qv⟩
    | next =>
      obtain ⟨σ2, H2, J, qv⟩ := hs
      exact ⟨.non, H2, J.os, J.bare, J.base, J.hok, rfl, qv⟩
    | brk => obtain ⟨_, _, _, qv⟩ := hs; exact qv.elim
    | cont => obtain ⟨_, _, _, qv⟩ := hs; exact qv.elim
  · cases eT : T (initI N ds) with
    | er c1 e1 =>
      rw [eT] at hc2
      cases hc2
      exact fun σ' H' F' a r => hq H' F' ⟨a.ff, r.fh, r.bh, fun x o e n => a.nw x o e n⟩
    | rt s0 => rw [eT] at hc2; cases hc2
    | nx e1 => rw [eT] at hc2; cases hc2
    | bk e1 => rw [eT] at hc2; cases hc2
    | ct e1 => rw [eT] at hc2; cases hc2
    | no => rw [eT] at hc2; cases hc2
end
def newE (fs : En → R (List D)) (g : List D → R S) : En → R S := fun env => (fs env).bind fun ds => match g ds with
  | .er c => .er c
  | _ => .no
@[simp] theorem e_newE {fs : En → R (List D)} {g : List D → R S} {env : En} : newE fs g env = (fs env).bind fun ds => match g ds with
  | .er c => .er c
  | _ => .no := rfl
theorem make_guards {A : Around} {C : Addr} {us : List Value} (h : A.guards = some []) : (A.under (.builtin "type.__call__" ⟨.ref C :: us, []⟩)).guards = some [] := by
  first
  | exact h
  | simpa [Around.under] using h
section
variable {X : Cx} {W : WX} {j k : Nat} {f C : Addr} {fd : FuncData} {ps : List Str} {g : List D → R S} {x : Str} {p pos : Pos} {e : Expr} {es : List Expr} {fs : En → R (List D)} {ms : List Md}
theorem do_newE (M : Mk X.K C f) (G : FnI X.prog X.w X.K X.mg X.base j f fd ps g) (cx : Cxt X W k) (hk : j + 1 ≤ k) (hg : Gl X x) (hm : X.mg x = some (.ref C)) (hb : Binds X.K fd ps []) (ha : DA X W ms (e :: es) fs) (hms : allf ms = true)
    (hn : ∀ ds env, fs env = .ok ds → ds.length + 1 = ps.length) (hdb : (x == ("__debug__" : Str)) = false := by decide) (he : starEach (e :: es) X.env = (false, eval e X.env) :: starEach es X.env := by rfl) (hpl : (backTo pos (starEach es X.env)).any (·.1) = false := by rfl) :
    DO X W (.Call (.Name x p) (e :: es) [] pos) (newE fs g) := by
  refine ⟨fun pins s σ H Q I ⟨B, F, env, r, q⟩ => ?_⟩
  refine wpAny_Call_Name_kw (ld_glob I hg hm ?_ hdb)
  have arg : tA X.K (ecOf X.mg) W ms fs σ H (fun vs H1 => vs.length + 1 = ps.length ∧ ∀ a dx, H1 a = none → H1 dx = none → dx ≠ a → PrI X.K X.mg ps.length g (.ref a :: vs) (upd (upd H1 dx (.own a)) a (.ins C dx [])) (WE W σ)) := by
    refine ⟨B, F, env, r, ?_⟩
    unfold newE at q
    cases ef : fs env with
    | er c => rw [ef] at q; exact q
    | no => rw [ef] at q; exact q
    | ok ds =>
      rw [ef] at q
      intro vs H1 F1 a rl
      have dp := rl.fs (allf_of hms)
      have ln : vs.length + 1 = ps.length := by rw [dp.len]; exact hn ds env ef
      refine ⟨ln, fun b dx n1 n2 n3 => ?_⟩
      have q : PoO X.K (ecOf X.mg) W F H σ Q (match g ds with
        | .er c => .er c
        | _ => .no) := q
      cases eg : g ds with
      | no => rw [eg] at q; exact q.elim
      | ok so => rw [eg] at q; exact q.elim
      | er c =>
        rw [eg] at q
        have sm : Same H1 (upd (upd H1 dx (.own b)) b (.ins C dx [])) := .of fun y o e => by
          have y1 : y ≠ b := fun z => by rw [z, n1] at e; cases e
          have y2 : y ≠ dx := fun z => by rw [z, n2] at e; cases e
          rw [upd_ne y1, upd_ne y2]; exact e
        refine ⟨F1, .ref b, vs, ds, c, rfl, ⟨by rw [← ln]; rfl, ((r.bh.trans a.hh).trans sm).tgH⟩, a.fh.trans sm, dp, eg, fun H2 F2 a2 => ?_⟩
        exact q H2 F2 (a.trans ⟨a2.ff, a2.fh, sm.trans a2.hh, fun y o e n => sm.free (a2.nw y o e n)⟩)
  refine PySem.W.callWith_K (h₀ := X.base) I.ok.mod.kin M.kp (thn (ha.run pos pins s σ H _ I arg) fun us s1 ⟨vs, H1, I1, rv, hlen, hp⟩ => ⟨I1.kIn, ?_⟩) he hpl
  have hp1 := hp (s1.heap.objs.size + 1) s1.heap.objs.size (I1.hok.fresh (Nat.le_succ _)) (I1.hok.fresh (Nat.le_refl _)) (Nat.ne_of_lt (Nat.lt_succ_self _))
  have I2 := Inv.made (C := C) I1
  have r2 : Vals (V.ref (s1.heap.objs.size + 1) :: vs) (Value.ref (s1.heap.objs.size + 1) :: us) := .cons rfl rv
  have hl : (Value.ref (s1.heap.objs.size + 1) :: us).length = ps.length := by rw [← r2.length, ← hlen]; rfl
  have bb := hb _ (Value.ref (s1.heap.objs.size + 1) :: us) I2.kIn (by rw [List.append_nil]; exact hl)
  rw [List.append_nil] at bb
  refine wpAny_call (make_map (f := f) I1.kIn M.makes M.init (beq_iff_eq.mp M.fn) (codeAny_mono (G.run _ X.stack _ _ (Value.ref (s1.heap.objs.size + 1) :: us) (V.ref (s1.heap.objs.size + 1) :: vs) (fun _ _ => False) (WE W σ) ((cx.rm.mono hk).make C us []) (make_guards cx.gd) (I2.env0.make C us []) bb r2 hp1) fun rr s2 hq => ?_))
  cases rr with
  | error u => exact passAt cx.tk σ pins _ _ u s2 I2 hq
  | ok fl => cases fl with
    | ret u =>
      obtain ⟨_, _, _, _, q3⟩ := I2.after hq
      exact q3.elim
    | next => exact hq.elim
    | brk => exact hq.elim
    | cont => exact hq.elim
end
end DL
namespace DL
open PySem PySem.Spec PyProof.Rows L2
variable [Tabs]
def clsBody (s : Stmt) : List Stmt := match s with
  | .ClassDef (body := b) .. => b
  | _ => []
structure FdI (K : PySem.W.Frag) (mg : Str → Option Value) (x qual : Str) (st : Stmt) (ps : List Str) : Prop where
  ex : ∃ C f fd, Fun K "__init__" qual st f fd ∧ mg x = some (.ref C) ∧ Mk K C f ∧ Binds K fd ps []
structure CalI (P : Program) (w : World) (K : PySem.W.Frag) (mg : Str → Option Value) (base : Heap) (k : Nat) (x : Str) (ps : List Str) (g : List D → R S) : Prop where
  ex : ∃ C f fd, FnI P w K mg base k f fd ps g ∧ mg x = some (.ref C) ∧ Mk K C f ∧ Binds K fd ps []
theorem calI_mk {P : Program} {w : World} {K : PySem.W.Frag} {mg : Str → Option Value} {base : Heap} {x qual : Str} {st : Stmt} {N ps : List Str} {k : Nat} {T : En → SR} (d : FdI K mg x qual st ps) (S : FnScope N ps (defScope st))
    (hT : ∀ (f0 : Addr) (cdv : Value) (A : Around) (outer : List Env) (s : Shared) (H : Hp) (E : XK),
      Cxt (cxOf (L2.CX P w) P w K mg base N qual (defScope st) f0 cdv A outer s H E) (fun cls d _ H' => E cls d H') k → DSs (cxOf (L2.CX P w) P w K mg base N qual (defScope st) f0 cdv A outer s H E) (fun cls d _ H' => E cls d H') (defBody st) T) :
    CalI P w K mg base (k + 1) x ps (bodyI N ps.length T) := by
  obtain ⟨C, f, fd, h1, h2, h3, h4⟩ := d.ex
  exact ⟨C, f, fd, fnI_mk h1 S hT, h2, h3, h4⟩
section
variable {X : Cx} {W : WX} {j k : Nat} {ps : List Str} {g : List D → R S} {x : Str} {p pos : Pos} {e : Expr} {es : List Expr} {fs : En → R (List D)} {ms : List Md}
theorem do_newC (c : CalI X.prog X.w X.K X.mg X.base j x ps g) (cx : Cxt X W k) (hk : j + 1 ≤ k) (ha : DA X W ms (e :: es) fs) (hms : allf ms = true) (hn : ∀ ds env, fs env = .ok ds → ds.length + 1 = ps.length) (hg : Gl X x := by rfl) (hdb : (x == ("__debug__" : Str)) = false := by decide)
    (he : starEach (e :: es) X.env = (false, eval e X.env) :: starEach es X.env := by rfl) (hpl : (backTo pos (starEach es X.env)).any (·.1) = false := by rfl) : DO X W (.Call (.Name x p) (e :: es) [] pos) (newE fs g) := by
  obtain ⟨C, f, fd, h1, h2, h3, h4⟩ := c.ex
  exact do_newE h3 h1 cx hk hg h2 h4 ha hms hn hdb he hpl
end
end DL
namespace DL
open PySem PySem.Spec PyProof.Rows L2
variable [Tabs]
/-! isinstance(e, (C1, C2)), e the exception that the suite holds -/
def rIsET (K : PySem.W.Frag) (D a : Addr) : List V → Hp → VK → Prop := fun xs H Q => ∃ (tp : Addr) (cs : List V) (us : List Value) (b : Bool), xs = [.ref a, .ref tp] ∧ H tp = some (.tup cs) ∧ Paired ClsV cs us ∧ PySem.W.kitAny K (.ref D) us = some b ∧ Q (.bl b) H
theorem call_isET {X : Cx} {a D : Addr} {oe : Obj} {pn : List (Addr × Obj)} (C : ExcC X.K D) (hz : Zc (.ref D) none oe) (hf : ∃ vs, oe.data = .fields vs) : CallR (X.suite a ((a, oe) :: pn)) (.builtin "isinstance") (rIsET X.K D a) := by
  intro pins s σ H xs us Q I r h
  obtain ⟨tp, cs, ws, b, rfl, hT, k, e, q⟩ := h
  obtain ⟨u1, u2, rfl, r1, r2⟩ := vals2 r
  cases (show u1 = Value.ref a from r1)
  cases (show u2 = Value.ref tp from r2)
  obtain ⟨hget, _⟩ := I.pin (a, oe) (List.mem_append.mpr (.inl List.mem_cons_self))
  obtain ⟨vs, hv⟩ := hf
  have J : PySem.W.InstAt s.heap a oe D none := by
    obtain ⟨oc, od, oda, osl⟩ := oe
    obtain ⟨h1, h2⟩ := hz
    dsimp only at h1 h2 hv
    subst h1 h2 hv
    exact ⟨hget, rfl, rfl, trivial⟩
  obtain ⟨_, its, rv, o, h1, h2, n, h3⟩ := (show ObjOk (X.suite a ((a, oe) :: pn)).prog (X.suite a ((a, oe) :: pn)).w H s.heap tp (.tup cs) from I.hok tp _ hT)
  have e3 := ClsV.all k rv
  subst e3
  obtain ⟨oc, od, dt, sl⟩ := o
  simp only at h2 h3
  subst h2 h3
  exact PySem.W.kia_tup (PySem.W.handS_kitx_exc C.hg C.hk C.hs C.hd C.ha C.hn C.ht C.hm) I.kIn J h1 e (fun z => nomatch z) fun tk => ⟨.bl b, H, I.tok tk, rfl, q⟩
theorem de_isOT {X : Cx} {W : WX} {m : Md} {pos : Pos} {a : Addr} {oe : Obj} {pn : List (Addr × Obj)} {x d1 d2 cls : Str} {p0 p1 p2 p3 tpos : Pos} {kk : Nat} {b1 b2 : Bool} (i : Nat) (E : Er X.K X.mg cls) (hz : Zc (ecOf X.mg cls) none oe) (hf : ∃ vs, oe.data = .fields vs)
    (hn : (X.suite a ((a, oe) :: pn)).N[i]? = some x) (hv : Vis (X.suite a ((a, oe) :: pn)).env.scope x) (hd : (x == ("__debug__" : Str)) = false) (hcd : (x == ("__classdict__" : Str)) = false)
    (hk1 : PySem.W.kitOne X.K (ecOf X.mg cls) (ecOf X.mg d1) = some b1) (nm1 : Names X d1 (ecOf X.mg d1)) (Ed1 : Er X.K X.mg d1)
    (hk2 : PySem.W.kitOne X.K (ecOf X.mg cls) (ecOf X.mg d2) = some b2) (nm2 : Names X d2 (ecOf X.mg d2)) (Ed2 : Er X.K X.mg d2)
    (hg : Gl (X.suite a ((a, oe) :: pn)) "isinstance") (hm : X.mg "isinstance" = none)
    (he : starEach [.Name x p1, .Tuple [.Name d1 p2, .Name d2 p3] kk tpos] (X.suite a ((a, oe) :: pn)).env = (false, eval (.Name x p1) (X.suite a ((a, oe) :: pn)).env) :: starEach [.Tuple [.Name d1 p2, .Name d2 p3] kk tpos] (X.suite a ((a, oe) :: pn)).env)
    (he2 : starEach [.Tuple [.Name d1 p2, .Name d2 p3] kk tpos] (X.suite a ((a, oe) :: pn)).env = (false, eval (.Tuple [.Name d1 p2, .Name d2 p3] kk tpos) (X.suite a ((a, oe) :: pn)).env) :: starEach [] (X.suite a ((a, oe) :: pn)).env)
    (he3 : starEach [.Name d1 p2, .Name d2 p3] (X.suite a ((a, oe) :: pn)).env = (false, eval (.Name d1 p2) (X.suite a ((a, oe) :: pn)).env) :: starEach [.Name d2 p3] (X.suite a ((a, oe) :: pn)).env)
    (he4 : starEach [.Name d2 p3] (X.suite a ((a, oe) :: pn)).env = (false, eval (.Name d2 p3) (X.suite a ((a, oe) :: pn)).env) :: starEach [] (X.suite a ((a, oe) :: pn)).env)
    (hpl : (backTo pos (starEach [.Tuple [.Name d1 p2, .Name d2 p3] kk tpos] (X.suite a ((a, oe) :: pn)).env)).any (·.1) = false) :
    DE (X.suite a ((a, oe) :: pn)) W m (.Call (.Name "isinstance" p0) [.Name x p1, .Tuple [.Name d1 p2, .Name d2 p3] kk tpos] [] pos) (isiS i a (b1 || b2)) := by
  obtain ⟨C, e⟩ := E.ex
  obtain ⟨C1, e1⟩ := Ed1.ex
  obtain ⟨C2, e2⟩ := Ed2.ex
  rw [e.e.ec] at hz
  rw [e.e.ec, e1.e.ec] at hk1
  rw [e.e.ec, e2.e.ec] at hk2
  refine (pe_callB (call_isET e.x hz hf) hg hm PyProof.Rows.boot_isinstance (pa_cons (pe_var hn hv hd hcd) (pa_cons (pe_tup (pa_cons (pe_glob (v := .ref C1) nm1.1 e1.e.g rfl nm1.2.1) (pa_cons (pe_glob (v := .ref C2) nm2.1 e2.e.g rfl nm2.2.1) pa_nil he4) he3)) pa_nil he2) he) (by decide) (by decide) he hpl).wk fun σ H Q ⟨B, F, env, r, p⟩ => ?_
  unfold isiS at p
  split at p
  · rename_i a' ee
    split at p
    · rename_i h
      subst h
      obtain ⟨as, h1, _, _⟩ := r.sl
      obtain ⟨w, bs, q1, q2, _⟩ := h1.get ee
      cases q2
      refine ⟨.ref a', q1, (by decide : (2 : Nat) ≤ sizeLine), fun t nt => ?_⟩
      have an := After.newO (F := F) r.fh (p := t) (o := .tup [.ref C1, .ref C2]) nt
      exact ⟨t, [.ref C1, .ref C2], [.ref C1, .ref C2], _, rfl, upd_same, .cons (.own C1) (.cons (.own C2) .nil), kit_any2 hk1 hk2, p _ _ _ an (Rp.bl _)⟩
    · exact p.elim
  · exact p.elim
end DL
namespace DL
open PySem PySem.Spec PyProof.Rows L2
variable [Tabs]
/-! x.append(y.pop()), both lists within one slot's own value -/
theorem To.shrunk {H : Hp} {b : Addr} {us : List V} (hb : H b = some (.lst us)) : ∀ {p : List Nat} {v w w' : V}, To H v p w → To (upd H b (.lst us.dropLast)) v p w' → w = w'
  | [], _, _, _, h, h' => by cases h; cases h'; rfl
  | _ :: _, _, _, _, ⟨a, vs, u, h1, h2, h3, h4⟩, ⟨a', vs', u', k1, k2, k3, k4⟩ => by
    rw [h1] at k1
    cases k1
    have eu : u = u' := by
      by_cases z : a = b
      · subst z
        rw [upd_same] at k2
        rw [hb] at h2
        rcases h2 with h2 | h2
        · cases h2
          rcases k2 with k2 | k2
          · cases k2
            have hn := (List.getElem?_eq_some_iff.mp k3).1
            rw [List.getElem?_dropLast, if_pos (by rw [List.length_dropLast] at hn; exact hn)] at k3
            rw [h3] at k3
            exact Option.some.inj k3
          · cases k2
        · cases h2
      · rw [upd_ne z] at k2
        have e : vs = vs' := by
          rcases h2 with y | y <;> rcases k2 with y' | y' <;> rw [y] at y' <;> cases y' <;> rfl
        subst e
        rw [h3] at k3
        exact Option.some.inj k3
    subst eu
    exact To.shrunk hb h4 k4
def apPopR (i : Nat) (env : En) (s : S) (p q : List Nat) : SR := match getP s q with
  | some us => match us.getLast? with
    | some (.fr d) => match getP (setP s q us.dropLast) p with
      | some ts => if ts.length < 1000000 then .nx (env.set i (some (.v (setP (setP s q us.dropLast) p (ts ++ [.fr d]))))) else .no
      | none => .no
    | _ => .no
  | none => .no
def apPopS (i : Nat) (fp fq : En → R (List Nat)) : En → SR := fun env => (fp env).st env fun p => match env[i]? with
  | some (some (.v s)) => match getP s p with
    | some _ => (fq env).st env fun q => apPopR i env s p q
    | none => .no
  | _ => .no
section
variable {X : Cx} {W : WX} {k : Nat} {m : Md} {pos : Pos} {fp fq : En → R (List Nat)}
theorem ds_appPop {x y : Expr} {ap cp ap2 cp2 : Pos} {i : Nat} (hx : DRef X W x i fp) (hy : DRef X W y i fq)
    (hb2 : attributeBase y "pop" X.env (eval y X.env) = eval y X.env := by rfl) (hl2 : (ap2.endLine == cp2.line) = true := by rfl)
    (hss : starEach [(.Call (.Attribute y "pop" ap2) [] [] cp2)] X.env = (false, eval (.Call (.Attribute y "pop" ap2) [] [] cp2) X.env) :: starEach [] X.env := by rfl)
    (hbase : attributeBase x "append" X.env (eval x X.env) = eval x X.env := by rfl)
    (hfew : ((backTo cp (starEach [(.Call (.Attribute y "pop" ap2) [] [] cp2)] X.env)).all (fun x => !x.1) && (backToKw cp (keywordEach [] X.env)).all (fun x => x.1.isSome)
      && decide ([(Expr.Call (.Attribute y "pop" ap2) [] [] cp2)].length + ([] : List Keyword).length + (if ([] : List Keyword).isEmpty then 0 else 1) < 30)) = true := by rfl)
    (hline : (ap.endLine == cp.line) = true := by rfl) (hplain : (backTo cp (starEach [] X.env)).any (·.1) = false := by rfl)
    (hs : swapsWith (.Call (.Attribute x "append" ap) [(.Call (.Attribute y "pop" ap2) [] [] cp2)] [] cp) none pos.line X.env = pure false := by rfl) :
    DS X W (.Expr (.Call (.Attribute x "append" ap) [(.Call (.Attribute y "pop" ap2) [] [] cp2)] [] cp) pos) (apPopS i fp fq) :=
  (ps_expr (pe_bm F.plainAttrs_list F.slot_list_append F.type_list_append mt_append hx.1 (pa_cons (pe_bm0 F.plainAttrs_list F.slot_list_pop F.type_list_pop mt_pop hy.1 hb2 hl2) pa_nil hss) hbase hfew hline hss hplain) hs).wk fun D σ H ⟨B, F, env, r, p⟩ => by
    unfold apPopS at p
    refine ⟨B, F, env, r, ?_⟩
    cases e1 : fp env with
    | no => rw [e1] at p; exact p.elim
    | er c => rw [e1] at p; exact fun H1 F1 a1 => p σ H1 F1 (a1.toS r.bh) (r.after a1)
    | ok pp =>
      rw [e1] at p
      simp only [R.st_ok] at p
      obtain ⟨s, t0, ee, eg⟩ := hx.2 env pp e1
      rw [ee] at p
      intro v w H1 F1 a1 hv hto
      have r1 := r.after a1
      cases ep : getP s pp with
      | none =>
        simp only [ep] at p
        exact p.elim
      | some ts0 =>
        simp only [ep] at p
        obtain ⟨v0, b0, us0, cs0, z1, z2, z3, z4, _⟩ := r.deep a1 ee ep
        rw [hv] at z1; cases z1
        have ew := To.fn hto z2
        subst ew
        refine ⟨tyV_lst z4, B, F1, env, r1, ?_⟩
        cases e2 : fq env with
        | no => rw [e2] at p; exact p.elim
        | er c => rw [e2] at p; exact fun H2 F2 a2 => p σ H2 F2 ((a1.trans a2).toS r.bh) (r1.after a2)
        | ok qq =>
          rw [e2] at p
          simp only [R.st_ok] at p
          intro v' w' H2 F2 a2 hv' hto'
          rw [hv] at hv'
          cases hv'
          have r2 := r1.after a2
          unfold apPopR at p
          cases eq : getP s qq with
          | none => simp only [eq] at p; exact p.elim
          | some us =>
            simp only [eq] at p
            obtain ⟨v1, b1, us1, cs1, y1, y2, y3, y4, y5, y6, y7, y8, y9, y10⟩ := r1.deep a2 ee eq
            rw [hv] at y1; cases y1
            have ew := To.fn hto' y2
            subst ew
            cases el : us.getLast? with
            | none => simp only [el] at p; exact p.elim
            | some x0 =>
              cases x0 with
              | ow _ => simp only [el] at p; exact p.elim
              | tu _ => simp only [el] at p; exact p.elim
              | fr d =>
                simp only [el] at p
                obtain ⟨vl, cl, as, w1, w2, w3, w4, w5⟩ := y5.split el y7
                have r3 := y10 _ _ as w3 (fun z => y6 (w5 b1 z)) w4 fun b hb => .inl (w5 b hb)
                refine ⟨tyV_lst y4, ?_⟩
                cases w2 with
                | fr w2 =>
                  refine ⟨b1, us1, vl, rfl, rfl, y4, w1, ?_⟩
                  cases eg2 : getP (setP s qq us.dropLast) pp with
                  | none => simp only [eg2] at p; exact p.elim
                  | some ts =>
                    simp only [eg2] at p
                    have ee3 : (env.set i (some (.v (setP s qq us.dropLast))))[i]? = some (some (.v (setP s qq us.dropLast))) := by
                      have hl : i < env.length := (List.getElem?_eq_some_iff.mp ee).1
                      rw [List.getElem?_set_self hl]
                    obtain ⟨v2, b2, us2, cs2, x1, x2, x3, x4, x5, x6, x7, x8, x9, x10⟩ := r3.deep (After.refl r3.fh) ee3 eg2
                    rw [hv] at x1; cases x1
                    have eb := To.shrunk y4 (To.same a2.hh z2) x2
                    cases eb
                    split at p
                    · rename_i hlen
                      refine ⟨b0, us2, vl, rfl, rfl, x4, by have := x5.len; have := million; omega, ?_⟩
                      have hp := p σ (upd (upd H2 b1 (.lst us1.dropLast)) b0 (.lst (us2 ++ [vl]))) F2 ((a1.trans a2).toS r.bh)
                      refine hp ?_
                      have q := x10 (us2 ++ [vl]) (ts ++ [.fr d]) (cs2 ++ ([] ++ [])) (OwAll.app x5 (.cons (.fr w2) .nil)) ?_ ?_ ?_
                      · rw [List.set_set] at q; exact q
                      · simpa using x6
                      · simpa using x7
                      · intro c hc
                        exact .inl (by simpa using hc)
                    · exact p.elim
end
end DL
namespace LX
open PySem PySem.Spec PyProof.Rows L2 DL
def topS (i : Nat) : Stmt := PySem.Challenge.pw_latelaw_k03_works_checked.main.body.getD i (.Pass ⟨0, 0, 0, 0⟩)
def sel_BadWork : Str → Option Bool := fun c => if c = ("LateError" : Str) then some false else if c = ("BadWork" : Str) then some true else if c = ("OutOfRange" : Str) then some false else if c = ("NoRate" : Str) then some false else none
theorem sel_BadWork_of {c : Str} (h : sel_BadWork c = some true) : c = ("BadWork" : Str) := by
  unfold sel_BadWork at h
  repeat' split at h
  all_goals first
    | (cases h; done)
    | exact by assumption
structure Gl (K : PySem.W.Frag) (mg : Str → Option Value) : Prop where
  b_int : mg "int" = none
  b_abs : mg "abs" = none
  b_len : mg "len" = none
  b_any : mg "any" = none
  b_repr : mg "repr" = none
  b_isinstance : mg "isinstance" = none
  b_ValueError : mg "ValueError" = none
  b_range : mg "range" = none
  b_list : mg "list" = none
  m_gcd : mg "gcd" = some (.builtin "math.gcd")
  c_GREATEST_PART : GI mg "GREATEST_PART" 1000000
  c_MOST_EVENTS : GI mg "MOST_EVENTS" 12
  c_LATE : GS mg "LATE" ("late" : Str)
  c_EARLY : GS mg "EARLY" ("early" : Str)
  e_BadWork : Er K mg "BadWork"
  e_LateError : Er K mg "LateError"
  e_OutOfRange : Er K mg "OutOfRange"
  e_NoRate : Er K mg "NoRate"
  s_LateError_BadWork : SubO K mg "LateError" "BadWork" false
  s_BadWork_BadWork : SubO K mg "BadWork" "BadWork" true
  s_OutOfRange_BadWork : SubO K mg "OutOfRange" "BadWork" false
  s_NoRate_BadWork : SubO K mg "NoRate" "BadWork" false
  s_BadWork_NoRate : SubO K mg "BadWork" "NoRate" false
  s_NoRate_NoRate : SubO K mg "NoRate" "NoRate" true
  s_BadWork_OutOfRange : SubO K mg "BadWork" "OutOfRange" false
  s_OutOfRange_OutOfRange : SubO K mg "OutOfRange" "OutOfRange" true
  s_BadWork_ValueError : SubB K mg "BadWork" "ValueError" true
  s_BadWork_LateError : SubO K mg "BadWork" "LateError" true
  s_LateError_LateError : SubO K mg "LateError" "LateError" true
theorem cl_BadWork {X : Cx} (G : Gl X.K X.mg) (hn : Names X "BadWork" (ecOf X.mg "BadWork")) : Cl X "BadWork" (ecOf X.mg "BadWork") sel_BadWork := ⟨hn, fun c b h => by
  unfold sel_BadWork at h
  repeat' split at h
  all_goals first
    | (cases h; done)
    | (cases h; rename_i q; subst q; exact exm_sub G.e_BadWork G.s_LateError_BadWork)
    | (cases h; rename_i q; subst q; exact exm_sub G.e_BadWork G.s_BadWork_BadWork)
    | (cases h; rename_i q; subst q; exact exm_sub G.e_BadWork G.s_OutOfRange_BadWork)
    | (cases h; rename_i q; subst q; exact exm_sub G.e_BadWork G.s_NoRate_BadWork)⟩
/-! _law_draws -/
abbrev s__law_draws : Stmt := topS 26
theorem sc__law_draws : FnScope ["cell", "limits", "found", "rest", "state", "free", "limit"] ["cell", "limits"] (defScope s__law_draws) := ⟨rfl, rfl, rfl, by decide +kernel, rfl, by decide +kernel, by decide +kernel⟩
noncomputable def T__law_draws : En → SR :=
  (sqS (asO 2 (lstR nilA))
  (sqS (asS 3 (cal (consA (cal (consA (vf 0) nilA) (one intD)) nilA) (one absD)))
  (sqS (asS 4 (b2 (cal (consA (vf 3) nilA) (one intD)) (cI 2147483647) modD))
  (sqS (asS 5 (orV (b2 (vf 0) (cI 0) ltD) (b2 (vf 0) (b2 (cI 10) (cI 18) powD) geD)))
  (sqS (fgS [6] (forS (seqR (vf 1)) (setN 6)
  (fnS [6] (ifS (andT (truR (vf 5)) (t2 (vf 3) (cI 1) gtD))
  (sqS (apS 2 (frR (b2 (cal (consA (vf 3) nilA) (one intD)) (vf 6) modD)))
  (asS 3 (b2 (vf 3) (vf 6) fdivD)))
  (sqS (asS 4 (b2 (cal (consA (b2 (b2 (vf 4) (cI 48271) mulD) (cI 11) addD) nilA) (one intD)) (cI 2147483647) modD))
  (sqS (asS 4 (b2 (cal (consA (b2 (b2 (vf 4) (cI 69621) mulD) (cI 7) addD) nilA) (one intD)) (cI 2147483647) modD))
  (apS 2 (frR (b2 (cal (consA (b2 (vf 4) (cI 13) fdivD) nilA) (one intD)) (vf 6) modD)))))))))
  (rtV 2))))))
noncomputable def g__law_draws : List D → R S := bodyR ["cell", "limits", "found", "rest", "state", "free", "limit"] 2 T__law_draws
theorem b__law_draws (d0 d1 : D) : g__law_draws [d0, d1] = endR (T__law_draws [some (.v (.fr d0)), some (.v (.fr d1)), none, none, none, none, none]) := rfl
theorem c__law_draws [Tabs] {P : Program} {w : World} {K : PySem.W.Frag} {mg : Str → Option Value} {base : Heap} (G : Gl K mg) (d : Fd K mg "_law_draws" s__law_draws ["cell", "limits"])  : Cal P w K mg base 1 "_law_draws" ["cell", "limits"] g__law_draws :=
  cal_mk d sc__law_draws fun f0 cdv A outer s H E cx =>
  (dss_cons (ds_setO 2 cx.nd (do_lst da_nil))
  (dss_cons (ds_set 3 cx.nd (de_callB bi_abs (by exact rfl) G.b_abs PyProof.Rows.boot_abs (da_cons (m := .h) (de_callT bi_int (by exact rfl) G.b_int PyProof.Rows.boot_int (da_cons (m := .h) (de_up (de_var 0)) da_nil)) da_nil)))
  (dss_cons (ds_set 4 cx.nd (de_mod (de_callT bi_int (by exact rfl) G.b_int PyProof.Rows.boot_int (da_cons (m := .h) (de_up (de_var 3)) da_nil)) de_int))
  (dss_cons (ds_set 5 cx.nd (de_or (de_cm cm_lt (de_up (de_var 0)) de_int) (de_one (de_cm cm_ge (de_up (de_var 0)) (de_pow de_int de_int)))))
  (dss_cons (ds_forget [6] (ds_for cx (di_seq (de_var 1)) (dg_name 6 cx.nd)
  (dss_fin [6] (dss_one (ds_if (dt_w (dw_and (dt_val (de_up (de_var 5))) (dw_and1 (dt_cm cm_gt (de_up (de_var 3)) de_int))))
  (dss_cons (ds_append 2 (do_f (de_mod (de_callT bi_int (by exact rfl) G.b_int PyProof.Rows.boot_int (da_cons (m := .h) (de_up (de_var 3)) da_nil)) (de_up (de_var 6)))))
  (dss_one (ds_set 3 cx.nd (de_fdiv (de_up (de_var 3)) (de_up (de_var 6))))))
  (dss_cons (ds_set 4 cx.nd (de_mod (de_callT bi_int (by exact rfl) G.b_int PyProof.Rows.boot_int (da_cons (m := .h) (de_up (de_add (de_mul (de_up (de_var 4)) de_int) de_int)) da_nil)) de_int))
  (dss_cons (ds_set 4 cx.nd (de_mod (de_callT bi_int (by exact rfl) G.b_int PyProof.Rows.boot_int (da_cons (m := .h) (de_up (de_add (de_mul (de_up (de_var 4)) de_int) de_int)) da_nil)) de_int))
  (dss_one (ds_append 2 (do_f (de_mod (de_callT bi_int (by exact rfl) G.b_int PyProof.Rows.boot_int (da_cons (m := .h) (de_fdiv (de_up (de_var 4)) de_int) da_nil)) (de_up (de_var 6)))))))))))))
  (dss_one (ds_retV 2)))))))
/-! _law_cell -/
abbrev s__law_cell : Stmt := topS 25
theorem sc__law_cell : FnScope ["script", "k"] ["script", "k"] (defScope s__law_cell) := ⟨rfl, rfl, rfl, by decide +kernel, rfl, by decide +kernel, by decide +kernel⟩
noncomputable def T__law_cell : En → SR :=
  (sqS (ifS (t2 (vf 1) (cal (consA (vf 0) nilA) (one lenD)) ltD)
  (rtS (cal (consA (b2 (vf 0) (vf 1) ixD) nilA) (one intD)))
  nxS)
  (rtS (cI 0)))
noncomputable def g__law_cell : List D → R S := bodyR ["script", "k"] 2 T__law_cell
theorem b__law_cell (d0 d1 : D) : g__law_cell [d0, d1] = endR (T__law_cell [some (.v (.fr d0)), some (.v (.fr d1))]) := rfl
theorem c__law_cell [Tabs] {P : Program} {w : World} {K : PySem.W.Frag} {mg : Str → Option Value} {base : Heap} (G : Gl K mg) (d : Fd K mg "_law_cell" s__law_cell ["script", "k"])  : Cal P w K mg base 1 "_law_cell" ["script", "k"] g__law_cell :=
  cal_mk d sc__law_cell fun f0 cdv A outer s H E cx =>
  (dss_cons (ds_if (dt_cm cm_lt (de_up (de_var 1)) (de_callB bi_len (by exact rfl) G.b_len PySem.boot_len (da_cons (m := .h) (de_up (de_var 0)) da_nil)))
  (dss_one (ds_ret (de_callT bi_int (by exact rfl) G.b_int PyProof.Rows.boot_int (da_cons (m := .h) (de_up (de_ix (de_up (de_var 0)) (de_up (de_var 1)))) da_nil))))
  dss_nil)
  (dss_one (ds_ret de_int)))
/-! _law_reducible -/
abbrev s__law_reducible : Stmt := topS 38
theorem sc__law_reducible : FnScope ["far", "found", "prime"] ["far"] (defScope s__law_reducible) := ⟨rfl, rfl, rfl, by decide +kernel, rfl, by decide +kernel, by decide +kernel⟩
noncomputable def T__law_reducible : En → SR :=
  (sqS (asO 1 (lstR nilA))
  (sqS (fgS [2] (forS (seqR (unO (lstR (consA (cI 3) (consA (cI 5) (consA (cI 7) (consA (cI 11) (consA (cI 13) (consA (cI 101) (consA (cI 997) nilA)))))))))) (setN 2)
  (fnS [2] (sqS (apS 1 (frR (tupR (consA (b2 (b2 (b2 (cal (consA (vf 0) nilA) (one intD)) (cI 900) modD) (cI 1) addD) (vf 2) mulD) (consA (b2 (b2 (b2 (cal (consA (vf 0) nilA) (one intD)) (cI 7) modD) (cI 1) addD) (vf 2) mulD) nilA)))))
  (apS 1 (frR (tupR (consA (negR (vf 2)) (consA (b2 (vf 2) (b2 (b2 (cal (consA (vf 0) nilA) (one intD)) (cI 11) modD) (cI 1) addD) mulD) nilA)))))))))
  (rtV 1)))
noncomputable def g__law_reducible : List D → R S := bodyR ["far", "found", "prime"] 1 T__law_reducible
theorem b__law_reducible (d0 : D) : g__law_reducible [d0] = endR (T__law_reducible [some (.v (.fr d0)), none, none]) := rfl
theorem c__law_reducible [Tabs] {P : Program} {w : World} {K : PySem.W.Frag} {mg : Str → Option Value} {base : Heap} (G : Gl K mg) (d : Fd K mg "_law_reducible" s__law_reducible ["far"])  : Cal P w K mg base 1 "_law_reducible" ["far"] g__law_reducible :=
  cal_mk d sc__law_reducible fun f0 cdv A outer s H E cx =>
  (dss_cons (ds_setO 1 cx.nd (do_lst da_nil))
  (dss_cons (ds_forget [2] (ds_for cx (di_seq (de_o (do_lst (da_cons (m := .f) de_int (da_cons (m := .f) de_int (da_cons (m := .f) de_int (da_cons (m := .f) de_int (da_cons (m := .f) de_int (da_cons (m := .f) de_int (da_cons (m := .f) de_int da_nil)))))))))) (dg_name 2 cx.nd)
  (dss_fin [2] (dss_cons (ds_append 1 (do_f (de_tup (da_cons (m := .f) (de_mul (de_up (de_add (de_mod (de_callT bi_int (by exact rfl) G.b_int PyProof.Rows.boot_int (da_cons (m := .h) (de_up (de_var 0)) da_nil)) de_int) de_int)) (de_up (de_var 2))) (da_cons (m := .f) (de_mul (de_up (de_add (de_mod (de_callT bi_int (by exact rfl) G.b_int PyProof.Rows.boot_int (da_cons (m := .h) (de_up (de_var 0)) da_nil)) de_int) de_int)) (de_up (de_var 2))) da_nil)))))
  (dss_one (ds_append 1 (do_f (de_tup (da_cons (m := .f) (de_neg (de_up (de_var 2))) (da_cons (m := .f) (de_mul (de_up (de_var 2)) (de_up (de_add (de_mod (de_callT bi_int (by exact rfl) G.b_int PyProof.Rows.boot_int (da_cons (m := .h) (de_up (de_var 0)) da_nil)) de_int) de_int))) da_nil))))))))))
  (dss_one (ds_retV 1))))
/-! is_fraction -/
abbrev s_is_fraction : Stmt := topS 8
theorem sc_is_fraction : FnScope ["pair", "top", "low"] ["pair"] (defScope s_is_fraction) := ⟨rfl, rfl, rfl, by decide +kernel, rfl, by decide +kernel, by decide +kernel⟩
noncomputable def T_is_fraction : En → SR :=
  (sqS (asG (tupG 2 (consG (setN 1) (consG (setN 2) nilG))) (vf 0))
  (rtS (andV (b2 (vf 2) (cI 1) geD) (b2 (cal (consA (vf 1) (consA (vf 2) nilA)) (two gcdD)) (cI 1) eqD))))
noncomputable def g_is_fraction : List D → R S := bodyR ["pair", "top", "low"] 1 T_is_fraction
theorem b_is_fraction (d0 : D) : g_is_fraction [d0] = endR (T_is_fraction [some (.v (.fr d0)), none, none]) := rfl
theorem c_is_fraction [Tabs] {P : Program} {w : World} {K : PySem.W.Frag} {mg : Str → Option Value} {base : Heap} (G : Gl K mg) (d : Fd K mg "is_fraction" s_is_fraction ["pair"])  : Cal P w K mg base 1 "is_fraction" ["pair"] g_is_fraction :=
  cal_mk d sc_is_fraction fun f0 cdv A outer s H E cx =>
  (dss_cons (ds_asg (de_var 0) (dg_tup cx.calm (dg_cons (dg_name 1 cx.nd) (dg_cons (dg_name 2 cx.nd) dg_nil))))
  (dss_one (ds_ret (de_and (de_cm cm_ge (de_up (de_var 2)) de_int) (de_one (de_cm (cm_eq (room64 cx.rm)) (de_callM bi_gcd (by exact rfl) G.m_gcd (da_cons (m := .h) (de_up (de_var 1)) (da_cons (m := .h) (de_up (de_var 2)) da_nil))) de_int))))))
/-! _is_valid_fraction -/
abbrev s__is_valid_fraction : Stmt := topS 16
theorem sc__is_valid_fraction : FnScope ["moment", "top", "low"] ["moment"] (defScope s__is_valid_fraction) := ⟨rfl, rfl, rfl, by decide +kernel, rfl, by decide +kernel, by decide +kernel⟩
noncomputable def T__is_valid_fraction : En → SR :=
  (sqS (asG (tupG 2 (consG (setN 1) (consG (setN 2) nilG))) (vf 0))
  (rtS (andV (b2 (cal (consA (vf 1) nilA) (one absD)) (cI 1000000) leD) (andV (b2 (vf 2) (cI 1000000) leD) (unO (cal (consA (vf 0) nilA) g_is_fraction))))))
noncomputable def g__is_valid_fraction : List D → R S := bodyR ["moment", "top", "low"] 1 T__is_valid_fraction
theorem b__is_valid_fraction (d0 : D) : g__is_valid_fraction [d0] = endR (T__is_valid_fraction [some (.v (.fr d0)), none, none]) := rfl
theorem c__is_valid_fraction [Tabs] {P : Program} {w : World} {K : PySem.W.Frag} {mg : Str → Option Value} {base : Heap} (G : Gl K mg) (d : Fd K mg "_is_valid_fraction" s__is_valid_fraction ["moment"]) (h_is_fraction : Cal P w K mg base 1 "is_fraction" ["pair"] g_is_fraction) : Cal P w K mg base 2 "_is_valid_fraction" ["moment"] g__is_valid_fraction :=
  cal_mk d sc__is_valid_fraction fun f0 cdv A outer s H E cx =>
  (dss_cons (ds_asg (de_var 0) (dg_tup cx.calm (dg_cons (dg_name 1 cx.nd) (dg_cons (dg_name 2 cx.nd) dg_nil))))
  (dss_one (ds_ret (de_and (de_cm cm_le (de_callB bi_abs (by exact rfl) G.b_abs PyProof.Rows.boot_abs (da_cons (m := .h) (de_up (de_var 1)) da_nil)) (de_globI G.c_GREATEST_PART rfl)) (de_and (de_cm cm_le (de_up (de_var 2)) (de_globI G.c_GREATEST_PART rfl)) (de_one (de_o (do_cal h_is_fraction cx (by decide) (da_cons (m := .f) (de_var 0) da_nil) rfl (consA_len nilA_len)))))))))
/-! check_work -/
abbrev s_check_work : Stmt := topS 15
theorem sc_check_work : FnScope ["work", "size", "row", "moment"] ["work"] (defScope s_check_work) := ⟨rfl, rfl, rfl, by decide +kernel, rfl, by decide +kernel, by decide +kernel⟩
noncomputable def T_check_work : En → SR :=
  (sqS (asS 1 (cal (consA (vf 0) nilA) (one lenD)))
  (sqS (ifS (orT (t2 (vf 1) (cI 1) ltD) (t2 (vf 1) (cI 12) gtD))
  (erS ("BadWork" : Str))
  nxS)
  (fgS [2, 3] (forS (seqR (vf 0)) (setN 2)
  (fnS [2, 3] (sqS (ifS (t2 (cal (consA (vf 2) nilA) (one lenD)) (vf 1) neD)
  (erS ("BadWork" : Str))
  nxS)
  (fgS [3] (forS (seqR (vf 2)) (setN 3)
  (fnS [3] (ifS (andT (t2 (vf 3) cN isNotD) (notT (truR (unO (cal (consA (vf 3) nilA) g__is_valid_fraction)))))
  (erS ("BadWork" : Str))
  nxS))))))))))
noncomputable def g_check_work : List D → R S := bodyR ["work", "size", "row", "moment"] 1 T_check_work
theorem b_check_work (d0 : D) : g_check_work [d0] = endR (T_check_work [some (.v (.fr d0)), none, none, none]) := rfl
theorem c_check_work [Tabs] {P : Program} {w : World} {K : PySem.W.Frag} {mg : Str → Option Value} {base : Heap} (G : Gl K mg) (d : Fd K mg "check_work" s_check_work ["work"]) (h__is_valid_fraction : Cal P w K mg base 2 "_is_valid_fraction" ["moment"] g__is_valid_fraction) : Cal P w K mg base 3 "check_work" ["work"] g_check_work :=
  cal_mk d sc_check_work fun f0 cdv A outer s H E cx =>
  (dss_cons (ds_set 1 cx.nd (de_callB bi_len (by exact rfl) G.b_len PySem.boot_len (da_cons (m := .h) (de_up (de_var 0)) da_nil)))
  (dss_cons (ds_if (dt_w (dw_or (dt_cm cm_lt (de_up (de_var 1)) de_int) (dw_or1 (dt_cm cm_gt (de_up (de_var 1)) (de_globI G.c_MOST_EVENTS rfl)))))
  (dss_one (ds_rs cx G.e_BadWork))
  dss_nil)
  (dss_one (ds_forget [2, 3] (ds_for cx (di_seq (de_var 0)) (dg_name 2 cx.nd)
  (dss_fin [2, 3] (dss_cons (ds_if (dt_cm (cm_ne (room64 cx.rm)) (de_callB bi_len (by exact rfl) G.b_len PySem.boot_len (da_cons (m := .h) (de_up (de_var 2)) da_nil)) (de_up (de_var 1)))
  (dss_one (ds_rs cx G.e_BadWork))
  dss_nil)
  (dss_one (ds_forget [3] (ds_for cx (di_seq (de_var 2)) (dg_name 3 cx.nd)
  (dss_fin [3] (dss_one (ds_if (dt_w (dw_and (dt_cm cm_isn (de_up (de_var 3)) de_non) (dw_and1 (dt_not (dt_val (de_up (de_o (do_cal h__is_valid_fraction cx (by decide) (da_cons (m := .f) (de_var 3) da_nil) rfl (consA_len nilA_len)))))))))
  (dss_one (ds_rs cx G.e_BadWork))
  dss_nil)))))))))))))
/-! is_less -/
abbrev s_is_less : Stmt := topS 9
theorem sc_is_less : FnScope ["first", "second"] ["first", "second"] (defScope s_is_less) := ⟨rfl, rfl, rfl, by decide +kernel, rfl, by decide +kernel, by decide +kernel⟩
noncomputable def T_is_less : En → SR :=
  (sqS (ifS (t2 (vf 1) cN isD)
  (rtS (cB false))
  nxS)
  (sqS (ifS (t2 (vf 0) cN isD)
  (rtS (cB true))
  nxS)
  (rtS (b2 (b2 (b2 (vf 0) (cI 0) ixD) (b2 (vf 1) (cI 1) ixD) mulD) (b2 (b2 (vf 1) (cI 0) ixD) (b2 (vf 0) (cI 1) ixD) mulD) ltD))))
noncomputable def g_is_less : List D → R S := bodyR ["first", "second"] 2 T_is_less
theorem b_is_less (d0 d1 : D) : g_is_less [d0, d1] = endR (T_is_less [some (.v (.fr d0)), some (.v (.fr d1))]) := rfl
theorem c_is_less [Tabs] {P : Program} {w : World} {K : PySem.W.Frag} {mg : Str → Option Value} {base : Heap} (G : Gl K mg) (d : Fd K mg "is_less" s_is_less ["first", "second"])  : Cal P w K mg base 1 "is_less" ["first", "second"] g_is_less :=
  cal_mk d sc_is_less fun f0 cdv A outer s H E cx =>
  (dss_cons (ds_if (dt_cm cm_is (de_up (de_var 1)) de_non)
  (dss_one (ds_ret de_bl))
  dss_nil)
  (dss_cons (ds_if (dt_cm cm_is (de_up (de_var 0)) de_non)
  (dss_one (ds_ret de_bl))
  dss_nil)
  (dss_one (ds_ret (de_cm cm_lt (de_mul (de_up (de_ix (de_up (de_var 0)) de_int)) (de_up (de_ix (de_up (de_var 1)) de_int))) (de_mul (de_up (de_ix (de_up (de_var 1)) de_int)) (de_up (de_ix (de_up (de_var 0)) de_int))))))))
noncomputable def Tq_is_less : En → SR :=
  (sqS (ifS (t2 (vf 1) cN isD) (rtS (cB false)) nxS) (sqS (ifS (t2 (vf 0) cN isD) (rtS (cB true)) nxS) (rtS (b2 (b2 (b2 (vf 0) (cI 0) ixD) (b2 (vf 1) (cI 1) ixD) mulD) (b2 (b2 (vf 1) (cI 0) ixD) (b2 (vf 0) (cI 1) ixD) mulD) ltD))))
noncomputable def gq_is_less : List D → R S := bodyR ["first", "second"] 2 Tq_is_less
theorem bq_is_less (d0 d1 : D) : gq_is_less [d0, d1] = endR (Tq_is_less [some (.v (.fr d0)), some (.v (.fr d1))]) := rfl
theorem qs_is_less [Tabs] {P : Program} {w : World} {K : PySem.W.Frag} {mg : Str → Option Value} {base : Heap} (M : Mod K mg base) (d : Fd K mg "is_less" s_is_less ["first", "second"])  : QFS P w K mg base 1 "is_less" 2 gq_is_less :=
  qfs_mk (T := Tq_is_less) M d sc_is_less (by decide +kernel) fun env GH hs hg => by
    cases env
    dsimp only at hs hg
    subst hs
    subst hg
    exact (fun o => (qgs_cons (qgs_if (qgt_isN (qge_var o 1)) (qgs_one (qgs_ret qge_bl)) qgs_nil) (qgs_cons (qgs_if (qgt_isN (qge_var o 0)) (qgs_one (qgs_ret qge_bl)) qgs_nil) (qgs_one (qgs_ret (qge_lt (qge_mul (qge_ix (qge_var o 0) qge_int) (qge_ix (qge_var o 1) qge_int)) (qge_mul (qge_ix (qge_var o 1) qge_int) (qge_ix (qge_var o 0) qge_int)))))))) (⟨M, rfl, rfl⟩ : QO _)
theorem qf_is_less {P : Program} {w : World} {K : PySem.W.Frag} {mg : Str → Option Value} {base : Heap} (M : Mod K mg base) (d : Fd K mg "is_less" s_is_less ["first", "second"])  : QFn P w K mg base 1 "is_less" 2 g_is_less :=
  qfn_mk (T := T_is_less) M d sc_is_less (by decide +kernel) fun env hs hg => by
    cases env
    dsimp only at hs hg
    subst hs
    subst hg
    exact (fun o => (qds_cons (qds_if (qdt_isN (qde_var o 1)) (qds_one (qds_ret qde_bl)) qds_nil) (qds_cons (qds_if (qdt_isN (qde_var o 0)) (qds_one (qds_ret qde_bl)) qds_nil) (qds_one (qds_ret (qde_lt (qde_mul (qde_ix (qde_var o 0) qde_int) (qde_ix (qde_var o 1) qde_int)) (qde_mul (qde_ix (qde_var o 1) qde_int) (qde_ix (qde_var o 0) qde_int)))))))) (⟨M, rfl, rfl⟩ : QO _)
/-! later -/
abbrev s_later : Stmt := topS 10
theorem sc_later : FnScope ["first", "second"] ["first", "second"] (defScope s_later) := ⟨rfl, rfl, rfl, by decide +kernel, rfl, by decide +kernel, by decide +kernel⟩
noncomputable def T_later : En → SR :=
  (sqS (ifS (truR (unO (cal (consA (vf 0) (consA (vf 1) nilA)) g_is_less)))
  (rtS (vf 1))
  nxS)
  (rtS (vf 0)))
noncomputable def g_later : List D → R S := bodyR ["first", "second"] 2 T_later
theorem b_later (d0 d1 : D) : g_later [d0, d1] = endR (T_later [some (.v (.fr d0)), some (.v (.fr d1))]) := rfl
theorem c_later [Tabs] {P : Program} {w : World} {K : PySem.W.Frag} {mg : Str → Option Value} {base : Heap} (G : Gl K mg) (d : Fd K mg "later" s_later ["first", "second"]) (h_is_less : Cal P w K mg base 1 "is_less" ["first", "second"] g_is_less) : Cal P w K mg base 2 "later" ["first", "second"] g_later :=
  cal_mk d sc_later fun f0 cdv A outer s H E cx =>
  (dss_cons (ds_if (dt_val (de_up (de_o (do_cal h_is_less cx (by decide) (da_cons (m := .f) (de_var 0) (da_cons (m := .f) (de_var 1) da_nil)) rfl (consA_len (consA_len nilA_len))))))
  (dss_one (ds_ret (de_var 1)))
  dss_nil)
  (dss_one (ds_ret (de_var 0))))
noncomputable def Tq_later : En → SR :=
  (sqS (ifS (truB (frO (cal (consA (vf 0) (consA (vf 1) nilA)) gq_is_less))) (rtS (vf 1)) nxS) (rtS (vf 0)))
noncomputable def gq_later : List D → R S := bodyR ["first", "second"] 2 Tq_later
theorem bq_later (d0 d1 : D) : gq_later [d0, d1] = endR (Tq_later [some (.v (.fr d0)), some (.v (.fr d1))]) := rfl
theorem qs_later [Tabs] {P : Program} {w : World} {K : PySem.W.Frag} {mg : Str → Option Value} {base : Heap} (M : Mod K mg base) (d : Fd K mg "later" s_later ["first", "second"]) (s_is_less_q : QFS P w K mg base 1 "is_less" 2 gq_is_less) : QFS P w K mg base 2 "later" 2 gq_later :=
  qfs_mk (T := Tq_later) M d sc_later (by decide +kernel) fun env GH hs hg => by
    cases env
    dsimp only at hs hg
    subst hs
    subst hg
    exact (fun o => (qgs_cons (qgs_if (qgt_val (qge_call o s_is_less_q rfl (qga_cons (qge_var o 0) (qga_cons (qge_var o 1) qga_nil)) (consA_len (consA_len nilA_len)))) (qgs_one (qgs_ret (qge_var o 1))) qgs_nil) (qgs_one (qgs_ret (qge_var o 0))))) (⟨M, rfl, rfl⟩ : QO _)
/-! latest -/
abbrev s_latest : Stmt := topS 11
theorem sc_latest : FnScope ["moments", "found", "moment"] ["moments"] (defScope s_latest) := ⟨rfl, rfl, rfl, by decide +kernel, rfl, by decide +kernel, by decide +kernel⟩
noncomputable def T_latest : En → SR :=
  (sqS (asS 1 cN)
  (sqS (fgS [2] (forS (seqR (vf 0)) (setN 2)
  (fnS [2] (asS 1 (unO (cal (consA (vf 1) (consA (vf 2) nilA)) g_later))))))
  (rtS (vf 1))))
noncomputable def g_latest : List D → R S := bodyR ["moments", "found", "moment"] 1 T_latest
theorem b_latest (d0 : D) : g_latest [d0] = endR (T_latest [some (.v (.fr d0)), none, none]) := rfl
theorem c_latest [Tabs] {P : Program} {w : World} {K : PySem.W.Frag} {mg : Str → Option Value} {base : Heap} (G : Gl K mg) (d : Fd K mg "latest" s_latest ["moments"]) (h_later : Cal P w K mg base 2 "later" ["first", "second"] g_later) : Cal P w K mg base 3 "latest" ["moments"] g_latest :=
  cal_mk d sc_latest fun f0 cdv A outer s H E cx =>
  (dss_cons (ds_set 1 cx.nd de_non)
  (dss_cons (ds_forget [2] (ds_for cx (di_seq (de_var 0)) (dg_name 2 cx.nd)
  (dss_fin [2] (dss_one (ds_set 1 cx.nd (de_o (do_cal h_later cx (by decide) (da_cons (m := .f) (de_var 1) (da_cons (m := .f) (de_var 2) da_nil)) rfl (consA_len (consA_len nilA_len)))))))))
  (dss_one (ds_ret (de_var 1)))))
noncomputable def Tq_latest : En → SR :=
  (sqS (asS 1 cN) (sqS (fgS [] (forS (seqL (vf 0)) (setN 2) (fnS [] (asS 1 (frO (cal (consA (vf 1) (consA (vf 2) nilA)) gq_later)))))) (rtS (vf 1))))
noncomputable def gq_latest : List D → R S := bodyR ["moments", "found", "moment"] 1 Tq_latest
theorem bq_latest (d0 : D) : gq_latest [d0] = endR (Tq_latest [some (.v (.fr d0)), none, none]) := rfl
theorem qs_latest [Tabs] {P : Program} {w : World} {K : PySem.W.Frag} {mg : Str → Option Value} {base : Heap} (M : Mod K mg base) (d : Fd K mg "latest" s_latest ["moments"]) (s_later_q : QFS P w K mg base 2 "later" 2 gq_later) : QFS P w K mg base 3 "latest" 1 gq_latest :=
  qfs_mk (T := Tq_latest) M d sc_latest (by decide +kernel) fun env GH hs hg => by
    cases env
    dsimp only at hs hg
    subst hs
    subst hg
    exact (fun o => (qgs_cons (qgs_set 1 o qge_non rfl (nd_inj sc_latest.nd rfl) rfl) (qgs_cons (qgs_forL o 2 0 [] rfl rfl rfl (nd_inj sc_latest.nd rfl) rfl rfl (qgs_one (qgs_set 1 o (qge_call o s_later_q rfl (qga_cons (qge_var o 1) (qga_cons (qge_var o 2) qga_nil)) (consA_len (consA_len nilA_len))) rfl (nd_inj sc_latest.nd rfl) rfl)) go_asS) (qgs_one (qgs_ret (qge_var o 1)))))) (⟨M, rfl, rfl⟩ : QO _)
/-! has_empty_row -/
abbrev s_has_empty_row : Stmt := topS 17
theorem sc_has_empty_row : FnScope ["work", "row"] ["work"] (defScope s_has_empty_row) := ⟨rfl, rfl, rfl, by decide +kernel, rfl, by decide +kernel, by decide +kernel⟩
noncomputable def T_has_empty_row : En → SR :=
  (rtS (gexR [1] (seqL (vf 0)) (setN 1) (b2 (frO (cal (consA (vf 1) nilA) gq_latest)) cN isD) anyK))
noncomputable def g_has_empty_row : List D → R S := bodyR ["work", "row"] 1 T_has_empty_row
theorem b_has_empty_row (d0 : D) : g_has_empty_row [d0] = endR (T_has_empty_row [some (.v (.fr d0)), none]) := rfl
theorem c_has_empty_row [Tabs] {P : Program} {w : World} {K : PySem.W.Frag} {mg : Str → Option Value} {base : Heap} {cC pC : Addr} (G : Gl K mg) (M : Mod K mg base) (d : FdC K mg "has_empty_row" s_has_empty_row ["work"] cC) (TB : GxR.TabB base mg cC pC) (HP : pC ∈ Tabs.T) (q_latest : QFn P w K mg base 3 "latest" 1 gq_latest) (h_latest : Cal P w K mg base 3 "latest" ["moments"] g_latest) : Cal P w K mg base 5 "has_empty_row" ["work"] g_has_empty_row :=
  cal_mkC d sc_has_empty_row fun f0 A outer s H E cx =>
  (dss_one (ds_ret (de_gexL (k := 3) (all := false) (ia := 1) (cx.rm.mono (by decide)) TB rfl HP (genS1_of rfl rfl (by decide +kernel) rfl rfl) (de_var 0) (by exact rfl) G.b_any (fun cenv hs hg => by
    cases cenv
    dsimp only at hs hg
    subst hs
    subst hg
    exact (fun o => (qde_isN (qde_call o q_latest rfl (qda_cons (qde_var o 1) qda_nil) (consA_len nilA_len)))) (⟨M, rfl, rfl⟩ : QO _)))))
/-! check_mixed -/
abbrev s_check_mixed : Stmt := topS 21
theorem sc_check_mixed : FnScope ["mixed", "work", "sides", "side"] ["mixed"] (defScope s_check_mixed) := ⟨rfl, rfl, rfl, by decide +kernel, rfl, by decide +kernel, by decide +kernel⟩
noncomputable def T_check_mixed : En → SR :=
  (sqS (asG (tupG 2 (consG (setN 1) (consG (setN 2) nilG))) (vf 0))
  (sqS (exS (unO (cal (consA (vf 1) nilA) g_check_work)))
  (sqS (ifS (t2 (cal (consA (vf 2) nilA) (one lenD)) (cal (consA (vf 1) nilA) (one lenD)) neD)
  (erS ("BadWork" : Str))
  nxS)
  (sqS (fgS [3] (forS (seqR (vf 2)) (setN 3)
  (fnS [3] (ifS (t2 (vf 3) (tupR (consA (cS ("late" : Str)) (consA (cS ("early" : Str)) nilA))) notInD)
  (erS ("BadWork" : Str))
  nxS))))
  (ifS (truR (unO (cal (consA (vf 1) nilA) g_has_empty_row)))
  (erS ("BadWork" : Str))
  nxS)))))
noncomputable def g_check_mixed : List D → R S := bodyR ["mixed", "work", "sides", "side"] 1 T_check_mixed
theorem b_check_mixed (d0 : D) : g_check_mixed [d0] = endR (T_check_mixed [some (.v (.fr d0)), none, none, none]) := rfl
theorem c_check_mixed [Tabs] {P : Program} {w : World} {K : PySem.W.Frag} {mg : Str → Option Value} {base : Heap} (G : Gl K mg) (d : Fd K mg "check_mixed" s_check_mixed ["mixed"]) (h_check_work : Cal P w K mg base 3 "check_work" ["work"] g_check_work) (h_has_empty_row : Cal P w K mg base 5 "has_empty_row" ["work"] g_has_empty_row) : Cal P w K mg base 6 "check_mixed" ["mixed"] g_check_mixed :=
  cal_mk d sc_check_mixed fun f0 cdv A outer s H E cx =>
  (dss_cons (ds_asg (de_var 0) (dg_tup cx.calm (dg_cons (dg_name 1 cx.nd) (dg_cons (dg_name 2 cx.nd) dg_nil))))
  (dss_cons (ds_expr (m := .f) (de_o (do_cal h_check_work cx (by decide) (da_cons (m := .f) (de_var 1) da_nil) rfl (consA_len nilA_len))))
  (dss_cons (ds_if (dt_cm (cm_ne (room64 cx.rm)) (de_callB bi_len (by exact rfl) G.b_len PySem.boot_len (da_cons (m := .h) (de_up (de_var 2)) da_nil)) (de_callB bi_len (by exact rfl) G.b_len PySem.boot_len (da_cons (m := .h) (de_up (de_var 1)) da_nil)))
  (dss_one (ds_rs cx G.e_BadWork))
  dss_nil)
  (dss_cons (ds_forget [3] (ds_for cx (di_seq (de_var 2)) (dg_name 3 cx.nd)
  (dss_fin [3] (dss_one (ds_if (dt_cm (cm_nin (room64 cx.rm)) (de_up (de_var 3)) (de_up (de_tup (da_cons (m := .f) (de_globS G.c_LATE rfl) (da_cons (m := .f) (de_globS G.c_EARLY rfl) da_nil)))))
  (dss_one (ds_rs cx G.e_BadWork))
  dss_nil)))))
  (dss_one (ds_if (dt_val (de_up (de_o (do_cal h_has_empty_row cx (by decide) (da_cons (m := .f) (de_var 1) da_nil) rfl (consA_len nilA_len)))))
  (dss_one (ds_rs cx G.e_BadWork))
  dss_nil))))))
/-! Desk -/
abbrev s_Desk : Stmt := (clsBody (topS 23)).getD 0 (.Pass ⟨0, 0, 0, 0⟩)
theorem sc_Desk : FnScope ["self", "work", "row"] ["self", "work"] (defScope s_Desk) := ⟨rfl, rfl, rfl, by decide +kernel, rfl, by decide +kernel, by decide +kernel⟩
noncomputable def T_Desk : En → SR :=
  (sqS (exS (unO (cal (consA (vf 1) nilA) g_check_work)))
  noS)
noncomputable def g_Desk : List D → R S := bodyI ["self", "work", "row"] 2 T_Desk
theorem b_Desk (d1 : D) : g_Desk [d1] = endR (T_Desk [none, some (.v (.fr d1)), none]) := rfl
theorem c_Desk [Tabs] {P : Program} {w : World} {K : PySem.W.Frag} {mg : Str → Option Value} {base : Heap} (G : Gl K mg) (d : FdI K mg "Desk" "Desk.__init__" s_Desk ["self", "work"]) (h_check_work : Cal P w K mg base 3 "check_work" ["work"] g_check_work) : CalI P w K mg base 4 "Desk" ["self", "work"] g_Desk :=
  calI_mk d sc_Desk fun f0 cdv A outer s H E cx =>
  (dss_cons (ds_expr (m := .f) (de_o (do_cal h_check_work cx (by decide) (da_cons (m := .f) (de_var 1) da_nil) rfl (consA_len nilA_len))))
  dss_no)
/-! _law_refused -/
abbrev s__law_refused : Stmt := topS 36
theorem sc__law_refused : FnScope ["work", "before", "way", "good", "e"] ["work"] (defScope s__law_refused) := ⟨rfl, rfl, rfl, by decide +kernel, rfl, by decide +kernel, by decide +kernel⟩
noncomputable def T__law_refused : En → SR :=
  (sqS (asS 1 (cal (consA (vf 0) nilA) (one reprD)))
  (sqS (fgS [2, 3] (forS (cal (consA (cI 3) nilA) rng1) (setN 2)
  (fnS [2, 3] (sqS (asS 3 (cB false))
  (sqS (tryS 4 sel_BadWork (ifS (t2 (vf 2) (cI 0) eqD)
  (exS (unO (cal (consA (vf 0) nilA) g_check_work)))
  (ifS (t2 (vf 2) (cI 1) eqD)
  (exS (unO (newE (consA (vf 0) nilA) g_Desk)))
  (exS (unO (cal (consA (tupR (consA (vf 0) (consA (unO (repR (lstR (consA (cS ("late" : Str)) nilA)) (cal (consA (vf 0) nilA) (one lenD)))) nilA))) nilA) g_check_mixed))))) (fun c a env => if c = ("BadWork" : Str) then (asS 3 (andV (isiS 4 a true) (andV (isiS 4 a true) (notV (isiS 4 a (false || false)))))) env else .no))
  (ifS (orT (notT (truR (vf 3))) (t2 (cal (consA (vf 0) nilA) (one reprD)) (vf 1) neD))
  (rtS (cB false))
  nxS))))))
  (rtS (cB true))))
noncomputable def g__law_refused : List D → R S := bodyR ["work", "before", "way", "good", "e"] 1 T__law_refused
theorem b__law_refused (d0 : D) : g__law_refused [d0] = endR (T__law_refused [some (.v (.fr d0)), none, none, none, none]) := rfl
theorem c__law_refused [Tabs] {P : Program} {w : World} {K : PySem.W.Frag} {mg : Str → Option Value} {base : Heap} (G : Gl K mg) (d : Fd K mg "_law_refused" s__law_refused ["work"]) (h_check_work : Cal P w K mg base 3 "check_work" ["work"] g_check_work) (h_Desk : CalI P w K mg base 4 "Desk" ["self", "work"] g_Desk) (h_check_mixed : Cal P w K mg base 6 "check_mixed" ["mixed"] g_check_mixed) : Cal P w K mg base 7 "_law_refused" ["work"] g__law_refused :=
  cal_mk d sc__law_refused fun f0 cdv A outer s H E cx =>
  (dss_cons (ds_set 1 cx.nd (de_callB (bi_repr cx) (by exact rfl) G.b_repr PyProof.Rows.boot_repr (da_cons (m := .h) (de_up (de_var 0)) da_nil)))
  (dss_cons (ds_forget [2, 3] (ds_for cx (di_rng1 (st := true) (by exact rfl) G.b_range (da_cons (m := .h) de_int da_nil)) (dg_name 2 cx.nd)
  (dss_fin [2, 3] (dss_cons (ds_set 3 cx.nd de_bl)
  (dss_cons (ds_tryS 4 cx (cl_BadWork G (names_own G.e_BadWork)) (fun W2 pn xe cx1 => (dss_one (ds_if (dt_cm (cm_eq (room64 cx1.rm)) (de_up (de_var 2)) de_int)
  (dss_one (ds_expr (m := .f) (de_o (do_cal h_check_work cx1 (by decide) (da_cons (m := .f) (de_var 0) da_nil) rfl (consA_len nilA_len)))))
  (dss_one (ds_if (dt_cm (cm_eq (room64 cx1.rm)) (de_up (de_var 2)) de_int)
  (dss_one (ds_expr (m := .f) (de_o (do_newC h_Desk cx1 (by decide) (da_cons (m := .f) (de_var 0) da_nil) rfl (fun ds env e => congrArg (· + 1) ((consA_len nilA_len) ds env e))))))
  (dss_one (ds_expr (m := .f) (de_o (do_cal h_check_mixed cx1 (by decide) (da_cons (m := .f) (de_tup (da_cons (m := .f) (de_var 0) (da_cons (m := .f) (de_o (do_rep (do_lst (da_cons (m := .f) de_str da_nil)) (de_callB bi_len (by exact rfl) G.b_len PySem.boot_len (da_cons (m := .h) (de_up (de_var 0)) da_nil)))) da_nil))) da_nil) rfl (consA_len nilA_len)))))))))) (fun c a oe pn hsel hz hf => by
    rcases sel_BadWork_of hsel with rfl
    · exact dss_eq ((dss_one (ds_set 3 cx.nd (de_and (de_isO 4 G.e_BadWork hz hf (by rfl) (by first | exact Or.inl rfl | exact Or.inr (Or.inl rfl)) (by decide) (by decide) (kit_own G.e_LateError G.s_BadWork_LateError G.s_LateError_LateError) (names_own G.e_LateError) G.e_LateError (by rfl) G.b_isinstance (by rfl) (by rfl) (by rfl)) (de_and (de_isB 4 G.e_BadWork hz hf (by rfl) (by first | exact Or.inl rfl | exact Or.inr (Or.inl rfl)) (by decide) (by decide) (G.s_BadWork_ValueError) G.b_ValueError (by decide +kernel) (by rfl) G.b_isinstance (by rfl) (by rfl) (by rfl)) (de_one (de_not (de_isOT 4 G.e_BadWork hz hf (by rfl) (by first | exact Or.inl rfl | exact Or.inr (Or.inl rfl)) (by decide) (by decide) (kit_own G.e_NoRate G.s_BadWork_NoRate G.s_NoRate_NoRate) (names_own G.e_NoRate) G.e_NoRate (kit_own G.e_OutOfRange G.s_BadWork_OutOfRange G.s_OutOfRange_OutOfRange) (names_own G.e_OutOfRange) G.e_OutOfRange (by rfl) G.b_isinstance (by rfl) (by rfl) (by rfl) (by rfl) (by rfl))))))))) (fun env => (if_pos rfl).symm)
    ))
  (dss_one (ds_if (dt_w (dw_or (dt_not (dt_val (de_up (de_var 3)))) (dw_or1 (dt_cm (cm_ne (room64 cx.rm)) (de_callB (bi_repr cx) (by exact rfl) G.b_repr PyProof.Rows.boot_repr (da_cons (m := .h) (de_up (de_var 0)) da_nil)) (de_up (de_var 1))))))
  (dss_one (ds_ret de_bl))
  dss_nil)))))))
  (dss_one (ds_ret de_bl))))
/-! _law_no_sides -/
abbrev s__law_no_sides : Stmt := topS 39
theorem sc__law_no_sides : FnScope ["work", "sides", "before", "e"] ["work", "sides"] (defScope s__law_no_sides) := ⟨rfl, rfl, rfl, by decide +kernel, rfl, by decide +kernel, by decide +kernel⟩
noncomputable def T__law_no_sides : En → SR :=
  (sqS (asS 2 (cal (consA (unO (lstR (consA (vf 0) (consA (vf 1) nilA)))) nilA) (one reprD)))
  (sqS (tryS 3 sel_BadWork (exS (unO (cal (consA (tupR (consA (vf 0) (consA (vf 1) nilA))) nilA) g_check_mixed))) (fun c a env => if c = ("BadWork" : Str) then (rtS (andV (isiS 3 a true) (b2 (cal (consA (unO (lstR (consA (vf 0) (consA (vf 1) nilA)))) nilA) (one reprD)) (vf 2) eqD))) env else .no))
  (rtS (cB false))))
noncomputable def g__law_no_sides : List D → R S := bodyR ["work", "sides", "before", "e"] 2 T__law_no_sides
theorem b__law_no_sides (d0 d1 : D) : g__law_no_sides [d0, d1] = endR (T__law_no_sides [some (.v (.fr d0)), some (.v (.fr d1)), none, none]) := rfl
theorem c__law_no_sides [Tabs] {P : Program} {w : World} {K : PySem.W.Frag} {mg : Str → Option Value} {base : Heap} (G : Gl K mg) (d : Fd K mg "_law_no_sides" s__law_no_sides ["work", "sides"]) (h_check_mixed : Cal P w K mg base 6 "check_mixed" ["mixed"] g_check_mixed) : Cal P w K mg base 7 "_law_no_sides" ["work", "sides"] g__law_no_sides :=
  cal_mk d sc__law_no_sides fun f0 cdv A outer s H E cx =>
  (dss_cons (ds_set 2 cx.nd (de_callB (bi_repr cx) (by exact rfl) G.b_repr PyProof.Rows.boot_repr (da_cons (m := .h) (de_up (de_o (do_lst (da_cons (m := .f) (de_var 0) (da_cons (m := .f) (de_var 1) da_nil))))) da_nil)))
  (dss_cons (ds_tryS 3 cx (cl_BadWork G (names_own G.e_BadWork)) (fun W2 pn xe cx1 => (dss_one (ds_expr (m := .f) (de_o (do_cal h_check_mixed cx1 (by decide) (da_cons (m := .f) (de_tup (da_cons (m := .f) (de_var 0) (da_cons (m := .f) (de_var 1) da_nil))) da_nil) rfl (consA_len nilA_len)))))) (fun c a oe pn hsel hz hf => by
    rcases sel_BadWork_of hsel with rfl
    · exact dss_eq ((dss_one (ds_ret (de_and (de_isO 3 G.e_BadWork hz hf (by rfl) (by first | exact Or.inl rfl | exact Or.inr (Or.inl rfl)) (by decide) (by decide) (kit_own G.e_LateError G.s_BadWork_LateError G.s_LateError_LateError) (names_own G.e_LateError) G.e_LateError (by rfl) G.b_isinstance (by rfl) (by rfl) (by rfl)) (de_one (de_cm (cm_eq (hu_mark cx.rm)) (de_callB (bi_reprU (gd_mark cx.gd) (un_mark cx.rm)) (by exact rfl) G.b_repr PyProof.Rows.boot_repr (da_cons (m := .h) (de_up (de_o (do_lst (da_cons (m := .f) (de_var 0) (da_cons (m := .f) (de_var 1) da_nil))))) da_nil)) (de_up (de_var 2)))))))) (fun env => (if_pos rfl).symm)
    ))
  (dss_one (ds_ret de_bl))))
/-! _law_gcd -/
abbrev s__law_gcd : Stmt := topS 27
theorem sc__law_gcd : FnScope ["a", "b", "k", "rest"] ["a", "b"] (defScope s__law_gcd) := ⟨rfl, rfl, rfl, by decide +kernel, rfl, by decide +kernel, by decide +kernel⟩
noncomputable def T__law_gcd : En → SR :=
  (sqS (asS 0 (cal (consA (vf 0) nilA) (one absD)))
  (sqS (asS 1 (cal (consA (vf 1) nilA) (one absD)))
  (sqS (fgS [2, 3] (forS (cal (consA (b2 (b2 (bitR (vf 0)) (bitR (vf 1)) addD) (cI 4) addD) nilA) rng1) (setN 2)
  (fnS [2, 3] (sqS (ifS (t2 (vf 1) (cI 0) eqD)
  (rtS (vf 0))
  nxS)
  (sqS (asS 3 (b2 (cal (consA (vf 0) nilA) (one intD)) (vf 1) modD))
  (sqS (asS 0 (vf 1))
  (asS 1 (vf 3))))))))
  (rtS (vf 0)))))
noncomputable def g__law_gcd : List D → R S := bodyR ["a", "b", "k", "rest"] 2 T__law_gcd
theorem b__law_gcd (d0 d1 : D) : g__law_gcd [d0, d1] = endR (T__law_gcd [some (.v (.fr d0)), some (.v (.fr d1)), none, none]) := rfl
theorem c__law_gcd [Tabs] {P : Program} {w : World} {K : PySem.W.Frag} {mg : Str → Option Value} {base : Heap} (G : Gl K mg) (d : Fd K mg "_law_gcd" s__law_gcd ["a", "b"])  : Cal P w K mg base 1 "_law_gcd" ["a", "b"] g__law_gcd :=
  cal_mk d sc__law_gcd fun f0 cdv A outer s H E cx =>
  (dss_cons (ds_set 0 cx.nd (de_callB bi_abs (by exact rfl) G.b_abs PyProof.Rows.boot_abs (da_cons (m := .h) (de_up (de_var 0)) da_nil)))
  (dss_cons (ds_set 1 cx.nd (de_callB bi_abs (by exact rfl) G.b_abs PyProof.Rows.boot_abs (da_cons (m := .h) (de_up (de_var 1)) da_nil)))
  (dss_cons (ds_forget [2, 3] (ds_for cx (di_rng1 (st := true) (by exact rfl) G.b_range (da_cons (m := .h) (de_up (de_add (de_up (de_add (de_bits (de_up (de_var 0))) (de_bits (de_up (de_var 1))))) de_int)) da_nil)) (dg_name 2 cx.nd)
  (dss_fin [2, 3] (dss_cons (ds_if (dt_cm (cm_eq (room64 cx.rm)) (de_up (de_var 1)) de_int)
  (dss_one (ds_ret (de_var 0)))
  dss_nil)
  (dss_cons (ds_set 3 cx.nd (de_mod (de_callT bi_int (by exact rfl) G.b_int PyProof.Rows.boot_int (da_cons (m := .h) (de_up (de_var 0)) da_nil)) (de_up (de_var 1))))
  (dss_cons (ds_set 0 cx.nd (de_var 1))
  (dss_one (ds_set 1 cx.nd (de_var 3)))))))))
  (dss_one (ds_ret (de_var 0))))))
/-! _law_fraction -/
abbrev s__law_fraction : Stmt := topS 28
theorem sc__law_fraction : FnScope ["top", "low", "common"] ["top", "low"] (defScope s__law_fraction) := ⟨rfl, rfl, rfl, by decide +kernel, rfl, by decide +kernel, by decide +kernel⟩
noncomputable def T__law_fraction : En → SR :=
  (sqS (asS 2 (unO (cal (consA (vf 0) (consA (vf 1) nilA)) g__law_gcd)))
  (sqS (ifS (t2 (vf 1) (cI 0) ltD)
  (asS 2 (negR (vf 2)))
  nxS)
  (rtS (tupR (consA (b2 (vf 0) (vf 2) fdivD) (consA (b2 (vf 1) (vf 2) fdivD) nilA))))))
noncomputable def g__law_fraction : List D → R S := bodyR ["top", "low", "common"] 2 T__law_fraction
theorem b__law_fraction (d0 d1 : D) : g__law_fraction [d0, d1] = endR (T__law_fraction [some (.v (.fr d0)), some (.v (.fr d1)), none]) := rfl
theorem c__law_fraction [Tabs] {P : Program} {w : World} {K : PySem.W.Frag} {mg : Str → Option Value} {base : Heap} (G : Gl K mg) (d : Fd K mg "_law_fraction" s__law_fraction ["top", "low"]) (h__law_gcd : Cal P w K mg base 1 "_law_gcd" ["a", "b"] g__law_gcd) : Cal P w K mg base 2 "_law_fraction" ["top", "low"] g__law_fraction :=
  cal_mk d sc__law_fraction fun f0 cdv A outer s H E cx =>
  (dss_cons (ds_set 2 cx.nd (de_o (do_cal h__law_gcd cx (by decide) (da_cons (m := .f) (de_var 0) (da_cons (m := .f) (de_var 1) da_nil)) rfl (consA_len (consA_len nilA_len)))))
  (dss_cons (ds_if (dt_cm cm_lt (de_up (de_var 1)) de_int)
  (dss_one (ds_set 2 cx.nd (de_neg (de_up (de_var 2)))))
  dss_nil)
  (dss_one (ds_ret (de_tup (da_cons (m := .f) (de_fdiv (de_up (de_var 0)) (de_up (de_var 2))) (da_cons (m := .f) (de_fdiv (de_up (de_var 1)) (de_up (de_var 2))) da_nil)))))))
/-! _law_moment -/
abbrev s__law_moment : Stmt := topS 34
theorem sc__law_moment : FnScope ["cell", "draws"] ["cell"] (defScope s__law_moment) := ⟨rfl, rfl, rfl, by decide +kernel, rfl, by decide +kernel, by decide +kernel⟩
noncomputable def T__law_moment : En → SR :=
  (sqS (asS 1 (unO (cal (consA (vf 0) (consA (unO (lstR (consA (cI 8) (consA (cI 21) (consA (cI 6) (consA (cI 2000001) (consA (cI 1000000) nilA))))))) nilA)) g__law_draws)))
  (sqS (ifS (t2 (b2 (vf 1) (cI 0) ixD) (cI 2) ltD)
  (rtS cN)
  nxS)
  (sqS (ifS (t2 (b2 (vf 1) (cI 0) ixD) (cI 2) eqD)
  (rtO (cal (consA (b2 (b2 (vf 1) (cI 3) ixD) (cI 1000000) subD) (consA (b2 (cI 1) (b2 (vf 1) (cI 4) ixD) addD) nilA)) g__law_fraction))
  nxS)
  (sqS (ifS (t2 (b2 (vf 1) (cI 0) ixD) (cI 3) eqD)
  (rtO (cal (consA (b2 (b2 (vf 1) (cI 1) ixD) (cI 10) subD) (consA (b2 (cI 1) (b2 (vf 1) (cI 2) ixD) addD) nilA)) g__law_fraction))
  nxS)
  (rtS (tupR (consA (b2 (b2 (vf 1) (cI 1) ixD) (cI 10) subD) (consA (cI 1) nilA))))))))
noncomputable def g__law_moment : List D → R S := bodyR ["cell", "draws"] 1 T__law_moment
theorem b__law_moment (d0 : D) : g__law_moment [d0] = endR (T__law_moment [some (.v (.fr d0)), none]) := rfl
theorem c__law_moment [Tabs] {P : Program} {w : World} {K : PySem.W.Frag} {mg : Str → Option Value} {base : Heap} (G : Gl K mg) (d : Fd K mg "_law_moment" s__law_moment ["cell"]) (h__law_draws : Cal P w K mg base 1 "_law_draws" ["cell", "limits"] g__law_draws) (h__law_fraction : Cal P w K mg base 2 "_law_fraction" ["top", "low"] g__law_fraction) : Cal P w K mg base 3 "_law_moment" ["cell"] g__law_moment :=
  cal_mk d sc__law_moment fun f0 cdv A outer s H E cx =>
  (dss_cons (ds_set 1 cx.nd (de_o (do_cal h__law_draws cx (by decide) (da_cons (m := .f) (de_var 0) (da_cons (m := .f) (de_o (do_lst (da_cons (m := .f) de_int (da_cons (m := .f) de_int (da_cons (m := .f) de_int (da_cons (m := .f) de_int (da_cons (m := .f) de_int da_nil))))))) da_nil)) rfl (consA_len (consA_len nilA_len)))))
  (dss_cons (ds_if (dt_cm cm_lt (de_up (de_ix (de_up (de_var 1)) de_int)) de_int)
  (dss_one (ds_ret de_non))
  dss_nil)
  (dss_cons (ds_if (dt_cm (cm_eq (room64 cx.rm)) (de_up (de_ix (de_up (de_var 1)) de_int)) de_int)
  (dss_one (ds_retO (do_cal h__law_fraction cx (by decide) (da_cons (m := .f) (de_sub (de_up (de_ix (de_up (de_var 1)) de_int)) de_int) (da_cons (m := .f) (de_add de_int (de_up (de_ix (de_up (de_var 1)) de_int))) da_nil)) rfl (consA_len (consA_len nilA_len)))))
  dss_nil)
  (dss_cons (ds_if (dt_cm (cm_eq (room64 cx.rm)) (de_up (de_ix (de_up (de_var 1)) de_int)) de_int)
  (dss_one (ds_retO (do_cal h__law_fraction cx (by decide) (da_cons (m := .f) (de_sub (de_up (de_ix (de_up (de_var 1)) de_int)) de_int) (da_cons (m := .f) (de_add de_int (de_up (de_ix (de_up (de_var 1)) de_int))) da_nil)) rfl (consA_len (consA_len nilA_len)))))
  dss_nil)
  (dss_one (ds_ret (de_tup (da_cons (m := .f) (de_sub (de_up (de_ix (de_up (de_var 1)) de_int)) de_int) (da_cons (m := .f) de_int da_nil)))))))))
/-! _law_with -/
abbrev s__law_with : Stmt := topS 37
theorem sc__law_with : FnScope ["work", "i", "j", "moment", "changed", "row"] ["work", "i", "j", "moment"] (defScope s__law_with) := ⟨rfl, rfl, rfl, by decide +kernel, rfl, by decide +kernel, by decide +kernel⟩
noncomputable def T__law_with : En → SR :=
  (sqS (asO 4 (compR [5] (seqR (vf 0)) (setN 5) yesT (cal (consA (vq 5) nilA) (one listD))))
  (sqS (alS 4 5 (rfX 4 (rfV 4) (vf 1)) (frR (vf 3)) (vf 2))
  (rtV 4)))
noncomputable def g__law_with : List D → R S := bodyR ["work", "i", "j", "moment", "changed", "row"] 4 T__law_with
theorem b__law_with (d0 d1 d2 d3 : D) : g__law_with [d0, d1, d2, d3] = endR (T__law_with [some (.v (.fr d0)), some (.v (.fr d1)), some (.v (.fr d2)), some (.v (.fr d3)), none, none]) := rfl
theorem c__law_with [Tabs] {P : Program} {w : World} {K : PySem.W.Frag} {mg : Str → Option Value} {base : Heap} (G : Gl K mg) (d : Fd K mg "_law_with" s__law_with ["work", "i", "j", "moment"])  : Cal P w K mg base 1 "_law_with" ["work", "i", "j", "moment"] g__law_with :=
  cal_mk d sc__law_with fun f0 cdv A outer s H E cx =>
  (dss_cons (ds_setC 4 cx (di_seq (de_var 0)) (blkOk_by (own := [(("row" : Str), 5)]) (by kernel_rfl)) (fun _ _ _ _ _ => (dg_name 5 cx.nd)) (fun _ _ _ _ _ => dts_nil) (fun s1 H1 C1 cl1 fp1 => (do_callT bo_list rfl G.b_list (by decide +kernel) (da_cons (m := .q) (de_varq 5) da_nil))))
  (dss_alias 5 cx.nd (dr_ix (dr_var 4) (de_up (de_var 1))) (do_f (de_var 3)) (de_up (de_var 2))
  (h2 := (dss_one (ds_retV 4)))))
/-! law -/
abbrev s_law : Stmt := topS 40
theorem sc_law : FnScope ["script", "draws", "size", "work", "i", "before", "j", "far", "moment", "wrong", "bad", "moved", "some", "full", "sides", "word", "row", "k"] ["script"] (defScope s_law) := ⟨rfl, rfl, rfl, by decide +kernel, rfl, by decide +kernel, by decide +kernel⟩
noncomputable def T_law : En → SR :=
  (sqS (asS 1 (unO (cal (consA (unO (cal (consA (vf 0) (consA (cI 0) nilA)) g__law_cell)) (consA (unO (lstR (consA (cI 12) (consA (cI 12) (consA (cI 12) (consA (cI 1000) nilA)))))) nilA)) g__law_draws)))
  (sqS (asS 2 (b2 (cI 1) (b2 (vf 1) (cI 0) ixD) addD))
  (sqS (asO 3 (lstR nilA))
  (sqS (fgS [4] (forS (cal (consA (vf 2) nilA) rng1) (setN 4)
  (fnS [4] (apS 3 (frR (unO (compR [6] (cal (consA (vf 2) nilA) rng1) (setN 6) yesT (cal (consA (b2 (b2 (unO (cal (consA (vf 0) (consA (b2 (b2 (cI 1) (b2 (vf 4) (vf 2) mulD) addD) (vf 6) addD) nilA)) g__law_cell)) (b2 (cI 17) (vf 6) mulD) addD) (b2 (cI 5) (vf 4) mulD) addD) nilA) g__law_moment))))))))
  (sqS (asS 5 (cal (consA (vh 3) nilA) (one reprD)))
  (sqS (ifS (lnT 3 (orT (t2 (unO (cal (consA (vf 3) nilA) g_check_work)) cN isNotD) (t2 (cal (consA (vf 3) nilA) (one reprD)) (vf 5) neD)))
  (rtS (cB false))
  nxS)
  (sqS (asS 4 (b2 (cal (consA (b2 (vf 1) (cI 1) ixD) nilA) (one intD)) (vf 2) modD))
  (sqS (asS 6 (b2 (cal (consA (b2 (vf 1) (cI 2) ixD) nilA) (one intD)) (vf 2) modD))
  (sqS (asS 7 (b2 (cI 1) (b2 (vf 1) (cI 3) ixD) addD))
  (sqS (fgS [8] (forS (seqR (unO (lstR (consA (tupR (consA (cI 1000000) (consA (cI 1) nilA))) (consA (tupR (consA (negR (cI 1000000)) (consA (cI 999999) nilA))) (consA (tupR (consA (cI 0) (consA (cI 1) nilA))) (consA (tupR (consA (cI 1) (consA (cI 1000000) nilA))) (consA cN (consA (tupR (consA (negR (cI 1)) (consA (cI 1) nilA))) nilA))))))))) (setN 8)
  (fnS [8] (ifS (lnT 3 (t2 (unO (cal (consA (unO (cal (consA (vf 3) (consA (vf 4) (consA (vf 6) (consA (vf 8) nilA)))) g__law_with)) nilA) g_check_work)) cN isNotD))
  (rtS (cB false))
  nxS))))
  (sqS (asS 9 (unO (lstR (consA (tupR (consA (b2 (cI 1000000) (vf 7) addD) (consA (cI 1) nilA))) (consA (tupR (consA (b2 (negR (cI 1000000)) (vf 7) subD) (consA (cI 1) nilA))) (consA (tupR (consA (cI 1) (consA (b2 (cI 1000000) (vf 7) addD) nilA))) (consA (tupR (consA (cI 0) (consA (cI 2) nilA))) (consA (tupR (consA (cI 0) (consA (cI 0) nilA))) (consA (tupR (consA (cI 2) (consA (cI 2) nilA))) (consA (tupR (consA (cI 4) (consA (cI 6) nilA))) nilA))))))))))
  (sqS (asS 9 (b2 (vf 9) (unO (lstR (consA (tupR (consA (cI 1) (consA (cI 0) nilA))) (consA (tupR (consA (cI 1) (consA (negR (cI 1)) nilA))) (consA (tupR (consA (negR (vf 7)) (consA (negR (vf 7)) nilA))) (consA (tupR (consA (cI 0) (consA (negR (cI 1)) nilA))) (consA (tupR (consA (vf 7) (consA (negR (vf 7)) nilA))) (consA (tupR (consA (b2 (vf 7) (cI 2) mulD) (consA (cI 4) nilA))) (consA (tupR (consA (cI 0) (consA (cI 3) nilA))) (consA (tupR (consA (cI 3) (consA (cI 3) nilA))) (consA (tupR (consA (cI 15) (consA (cI 60) nilA))) (consA (tupR (consA (b2 (negR (vf 7)) (cI 7) mulD) (consA (b2 (cI 7) (vf 7) mulD) nilA))) nilA)))))))))))) addD))
  (sqS (fgS [8] (forS (seqR (b2 (vf 9) (unO (cal (consA (vf 7) nilA) g__law_reducible)) addD)) (setN 8)
  (fnS [8] (ifS (lnT 3 (notT (truR (unO (cal (consA (unO (cal (consA (vf 3) (consA (vf 4) (consA (vf 6) (consA (vf 8) nilA)))) g__law_with)) nilA) g__law_refused)))))
  (rtS (cB false))
  nxS))))
  (sqS (asO 10 (lstR (consA (unO (lstR nilA)) (consA (b2 (vq 3) (unO (lstR (consA (b2 (vq 3) (cI 0) ixD) nilA))) addD) (consA (b2 (unO (slR (vq 3) noneO (someO (vf 4)) slcD)) (unO (slR (vq 3) (someO (b2 (vf 4) (cI 1) addD)) noneO slcD)) addD) (consA (unO (compR [16] (seqR (vq 3)) (setN 16) yesT (frR (b2 (vf 16) (unO (lstR (consA cN nilA))) addD)))) (consA (b2 (b2 (unO (slR (vq 3) noneO (someO (vf 4)) slcD)) (unO (lstR (consA (b2 (b2 (vq 3) (vf 4) ixD) (unO (lstR (consA cN nilA))) addD) nilA))) addD) (unO (slR (vq 3) (someO (b2 (vf 4) (cI 1) addD)) noneO slcD)) addD) (consA (b2 (b2 (unO (slR (vq 3) noneO (someO (vf 4)) slcD)) (unO (lstR (consA (unO (slR (b2 (vq 3) (vf 4) ixD) (someO (cI 1)) noneO slcD)) nilA))) addD) (unO (slR (vq 3) (someO (b2 (vf 4) (cI 1) addD)) noneO slcD)) addD) nilA))))))))
  (sqS (asO 10 (adR (vq 10) (unO (lstR (consA (unO (repR (lstR (consA (unO (repR (lstR (consA cN nilA)) (cI 13))) nilA)) (cI 13))) (consA (unO (repR (lstR (consA (unO (repR (lstR (consA cN nilA)) (b2 (cI 13) (b2 (cal (consA (vf 7) nilA) (one intD)) (cI 3) modD) addD))) nilA)) (b2 (cI 13) (b2 (cal (consA (vf 7) nilA) (one intD)) (cI 3) modD) addD))) (consA (unO (lstR (consA (unO (lstR nilA)) nilA))) (consA (b2 (b2 (unO (slR (vq 3) noneO (someO (vf 4)) slcD)) (unO (lstR (consA (unO (lstR nilA)) nilA))) addD) (unO (slR (vq 3) (someO (b2 (vf 4) (cI 1) addD)) noneO slcD)) addD) nilA))))))))
  (sqS (ifS (t2 (vf 2) (cI 1) gtD)
  (sqS (asS 6 (b2 (cal (consA (b2 (vf 4) (cI 1) addD) nilA) (one intD)) (vf 2) modD))
  (sqS (asO 11 (compR [16] (seqR (vq 3)) (setN 16) yesT (cal (consA (vf 16) nilA) (one listD))))
  (sqS (apPopS 11 (rfX 11 (rfV 11) (vf 6)) (rfX 11 (rfV 11) (vf 4)))
  (fzS 11 (apS 10 (frR (vf 11)))))))
  nxS)
  (sqS (fzS 10 (fgS [12] (forS (seqR (vf 10)) (setN 12)
  (fnS [12] (ifS (notT (truR (unO (cal (consA (vf 12) nilA) g__law_refused))))
  (rtS (cB false))
  nxS)))))
  (sqS (asS 13 (unO (compR [4] (cal (consA (vf 2) nilA) rng1) (setN 4) yesT (frR (unO (compR [6] (cal (consA (vf 2) nilA) rng1) (setN 6) yesT (frR (tupR (consA (b2 (vf 4) (vf 6) subD) (consA (cI 1) nilA))))))))))
  (sqS (asS 14 (unO (compR [17] (cal (consA (vf 2) nilA) rng1) (setN 17) yesT (frR (b2 (unO (lstR (consA (cS ("late" : Str)) (consA (cS ("early" : Str)) nilA)))) (b2 (b2 (vf 7) (vf 17) shrD) (cI 1) andD) ixD)))))
  (sqS (ifS (t2 (unO (cal (consA (tupR (consA (vf 13) (consA (vf 14) nilA))) nilA) g_check_mixed)) cN isNotD)
  (rtS (cB false))
  nxS)
  (sqS (fgS [15] (forS (seqR (unO (lstR (consA (cS ("Late" : Str)) (consA (cS ("early " : Str)) (consA (cS (" late" : Str)) (consA (cS ("earl" : Str)) (consA (cS ("lat" : Str)) (consA (cS ("latee" : Str)) (consA (cS ("" : Str)) (consA (cS ("e" : Str)) (consA (cS ("l" : Str)) (consA (cS ("earlylate" : Str)) (consA (cS ("early bird" : Str)) (consA (cS ("LATE" : Str)) (consA (cS ("none" : Str)) (consA (cS ("latE" : Str)) nilA))))))))))))))))) (setN 15)
  (fnS [15] (ifS (notT (truR (unO (cal (consA (vf 13) (consA (b2 (b2 (unO (slR (vf 14) noneO (someO (vf 4)) slcD)) (unO (lstR (consA (vf 15) nilA))) addD) (unO (slR (vf 14) (someO (b2 (vf 4) (cI 1) addD)) noneO slcD)) addD) nilA)) g__law_no_sides))))
  (rtS (cB false))
  nxS))))
  (sqS (ifS (orT (notT (truR (unO (cal (consA (vf 13) (consA (unO (slR (vf 14) (someO (cI 1)) noneO slcD)) nilA)) g__law_no_sides)))) (orT (notT (truR (unO (cal (consA (vf 13) (consA (b2 (vf 14) (unO (lstR (consA (cS ("late" : Str)) nilA))) addD) nilA)) g__law_no_sides)))) (notT (truR (unO (cal (consA (b2 (unO (lstR (consA (unO (repR (lstR (consA cN nilA)) (vf 2))) nilA))) (unO (slR (vf 13) (someO (cI 1)) noneO slcD)) addD) (consA (vf 14) nilA)) g__law_no_sides))))))
  (rtS (cB false))
  nxS)
  (rtS (b2 (unO (cal (consA (unO (repR (lstR (consA (unO (repR (lstR (consA cN nilA)) (cI 12))) nilA)) (cI 12))) nilA) g_check_work)) cN isD))))))))))))))))))))))))
noncomputable def g_law : List D → R S := bodyR ["script", "draws", "size", "work", "i", "before", "j", "far", "moment", "wrong", "bad", "moved", "some", "full", "sides", "word", "row", "k"] 1 T_law
theorem b_law (d0 : D) : g_law [d0] = endR (T_law [some (.v (.fr d0)), none, none, none, none, none, none, none, none, none, none, none, none, none, none, none, none, none]) := rfl
theorem c_law [Tabs] {P : Program} {w : World} {K : PySem.W.Frag} {mg : Str → Option Value} {base : Heap} (G : Gl K mg) (d : Fd K mg "law" s_law ["script"]) (h__law_draws : Cal P w K mg base 1 "_law_draws" ["cell", "limits"] g__law_draws) (h__law_cell : Cal P w K mg base 1 "_law_cell" ["script", "k"] g__law_cell) (h__law_reducible : Cal P w K mg base 1 "_law_reducible" ["far"] g__law_reducible) (h_check_mixed : Cal P w K mg base 6 "check_mixed" ["mixed"] g_check_mixed) (h_check_work : Cal P w K mg base 3 "check_work" ["work"] g_check_work) (h__law_refused : Cal P w K mg base 7 "_law_refused" ["work"] g__law_refused) (h__law_no_sides : Cal P w K mg base 7 "_law_no_sides" ["work", "sides"] g__law_no_sides) (h__law_moment : Cal P w K mg base 3 "_law_moment" ["cell"] g__law_moment) (h__law_with : Cal P w K mg base 1 "_law_with" ["work", "i", "j", "moment"] g__law_with) : Cal P w K mg base 8 "law" ["script"] g_law :=
  cal_mk d sc_law fun f0 cdv A outer s H E cx =>
  (dss_cons (ds_set 1 cx.nd (de_o (do_cal h__law_draws cx (by decide) (da_cons (m := .f) (de_o (do_cal h__law_cell cx (by decide) (da_cons (m := .f) (de_var 0) (da_cons (m := .f) de_int da_nil)) rfl (consA_len (consA_len nilA_len)))) (da_cons (m := .f) (de_o (do_lst (da_cons (m := .f) de_int (da_cons (m := .f) de_int (da_cons (m := .f) de_int (da_cons (m := .f) de_int da_nil)))))) da_nil)) rfl (consA_len (consA_len nilA_len)))))
  (dss_cons (ds_set 2 cx.nd (de_add de_int (de_up (de_ix (de_up (de_var 1)) de_int))))
  (dss_cons (ds_setO 3 cx.nd (do_lst da_nil))
  (dss_cons (ds_forget [4] (ds_for cx (di_rng1 (st := true) (by exact rfl) G.b_range (da_cons (m := .h) (de_up (de_var 2)) da_nil)) (dg_name 4 cx.nd)
  (dss_fin [4] (dss_one (ds_append 3 (do_f (de_o (do_comp cx (di_rng1 (st := false) (by exact rfl) G.b_range (da_cons (m := .h) (de_up (de_var 2)) da_nil)) (blkOk_by (own := [(("j" : Str), 6)]) (by kernel_rfl)) (fun _ _ _ _ _ => (dg_name 6 cx.nd)) (fun _ _ _ _ _ => dts_nil) (fun s1 H1 C1 cl1 fp1 => (do_cal h__law_moment (cx.blk s1 H1 _ _ fp1) (by decide) (da_cons (m := .f) (de_add (de_up (de_add (de_up (de_o (do_cal h__law_cell (cx.blk s1 H1 _ _ fp1) (by decide) (da_cons (m := .f) (de_var 0) (da_cons (m := .f) (de_add (de_up (de_add de_int (de_mul (de_up (de_var 4)) (de_up (de_var 2))))) (de_up (de_var 6))) da_nil)) rfl (consA_len (consA_len nilA_len))))) (de_mul de_int (de_up (de_var 6))))) (de_mul de_int (de_up (de_var 4)))) da_nil) rfl (consA_len nilA_len)))))))))))
  (dss_cons (ds_set 5 cx.nd (de_callB (bi_repr cx) (by exact rfl) G.b_repr PyProof.Rows.boot_repr (da_cons (m := .h) (de_varh 3) da_nil)))
  (dss_cons (ds_if (dt_lend 3 (dt_w (dw_or (dt_cm cm_isn (de_up (de_o (do_cal h_check_work cx (by decide) (da_cons (m := .f) (de_var 3) da_nil) rfl (consA_len nilA_len)))) de_non) (dw_or1 (dt_cm (cm_ne (room64 cx.rm)) (de_callB (bi_repr cx) (by exact rfl) G.b_repr PyProof.Rows.boot_repr (da_cons (m := .h) (de_up (de_var 3)) da_nil)) (de_up (de_var 5)))))))
  (dss_one (ds_ret de_bl))
  dss_nil)
  (dss_cons (ds_set 4 cx.nd (de_mod (de_callT bi_int (by exact rfl) G.b_int PyProof.Rows.boot_int (da_cons (m := .h) (de_up (de_ix (de_up (de_var 1)) de_int)) da_nil)) (de_up (de_var 2))))
  (dss_cons (ds_set 6 cx.nd (de_mod (de_callT bi_int (by exact rfl) G.b_int PyProof.Rows.boot_int (da_cons (m := .h) (de_up (de_ix (de_up (de_var 1)) de_int)) da_nil)) (de_up (de_var 2))))
  (dss_cons (ds_set 7 cx.nd (de_add de_int (de_up (de_ix (de_up (de_var 1)) de_int))))
  (dss_cons (ds_forget [8] (ds_for cx (di_seq (de_o (do_lst (da_cons (m := .f) (de_tup (da_cons (m := .f) de_int (da_cons (m := .f) de_int da_nil))) (da_cons (m := .f) (de_tup (da_cons (m := .f) (de_neg de_int) (da_cons (m := .f) de_int da_nil))) (da_cons (m := .f) (de_tup (da_cons (m := .f) de_int (da_cons (m := .f) de_int da_nil))) (da_cons (m := .f) (de_tup (da_cons (m := .f) de_int (da_cons (m := .f) de_int da_nil))) (da_cons (m := .f) de_non (da_cons (m := .f) (de_tup (da_cons (m := .f) (de_neg de_int) (da_cons (m := .f) de_int da_nil))) da_nil))))))))) (dg_name 8 cx.nd)
  (dss_fin [8] (dss_one (ds_if (dt_lend 3 (dt_cm cm_isn (de_up (de_o (do_cal h_check_work cx (by decide) (da_cons (m := .f) (de_o (do_cal h__law_with cx (by decide) (da_cons (m := .f) (de_var 3) (da_cons (m := .f) (de_var 4) (da_cons (m := .f) (de_var 6) (da_cons (m := .f) (de_var 8) da_nil)))) rfl (consA_len (consA_len (consA_len (consA_len nilA_len)))))) da_nil) rfl (consA_len nilA_len)))) de_non))
  (dss_one (ds_ret de_bl))
  dss_nil)))))
  (dss_cons (ds_set 9 cx.nd (de_o (do_lst (da_cons (m := .f) (de_tup (da_cons (m := .f) (de_add de_int (de_up (de_var 7))) (da_cons (m := .f) de_int da_nil))) (da_cons (m := .f) (de_tup (da_cons (m := .f) (de_sub (de_neg de_int) (de_up (de_var 7))) (da_cons (m := .f) de_int da_nil))) (da_cons (m := .f) (de_tup (da_cons (m := .f) de_int (da_cons (m := .f) (de_add de_int (de_up (de_var 7))) da_nil))) (da_cons (m := .f) (de_tup (da_cons (m := .f) de_int (da_cons (m := .f) de_int da_nil))) (da_cons (m := .f) (de_tup (da_cons (m := .f) de_int (da_cons (m := .f) de_int da_nil))) (da_cons (m := .f) (de_tup (da_cons (m := .f) de_int (da_cons (m := .f) de_int da_nil))) (da_cons (m := .f) (de_tup (da_cons (m := .f) de_int (da_cons (m := .f) de_int da_nil))) da_nil))))))))))
  (dss_cons (ds_set 9 cx.nd (de_add (de_up (de_var 9)) (de_up (de_o (do_lst (da_cons (m := .f) (de_tup (da_cons (m := .f) de_int (da_cons (m := .f) de_int da_nil))) (da_cons (m := .f) (de_tup (da_cons (m := .f) de_int (da_cons (m := .f) (de_neg de_int) da_nil))) (da_cons (m := .f) (de_tup (da_cons (m := .f) (de_neg (de_up (de_var 7))) (da_cons (m := .f) (de_neg (de_up (de_var 7))) da_nil))) (da_cons (m := .f) (de_tup (da_cons (m := .f) de_int (da_cons (m := .f) (de_neg de_int) da_nil))) (da_cons (m := .f) (de_tup (da_cons (m := .f) (de_var 7) (da_cons (m := .f) (de_neg (de_up (de_var 7))) da_nil))) (da_cons (m := .f) (de_tup (da_cons (m := .f) (de_mul (de_up (de_var 7)) de_int) (da_cons (m := .f) de_int da_nil))) (da_cons (m := .f) (de_tup (da_cons (m := .f) de_int (da_cons (m := .f) de_int da_nil))) (da_cons (m := .f) (de_tup (da_cons (m := .f) de_int (da_cons (m := .f) de_int da_nil))) (da_cons (m := .f) (de_tup (da_cons (m := .f) de_int (da_cons (m := .f) de_int da_nil))) (da_cons (m := .f) (de_tup (da_cons (m := .f) (de_mul (de_neg (de_up (de_var 7))) de_int) (da_cons (m := .f) (de_mul de_int (de_up (de_var 7))) da_nil))) da_nil)))))))))))))))
  (dss_cons (ds_forget [8] (ds_for cx (di_seq (de_add (de_up (de_var 9)) (de_up (de_o (do_cal h__law_reducible cx (by decide) (da_cons (m := .f) (de_var 7) da_nil) rfl (consA_len nilA_len)))))) (dg_name 8 cx.nd)
  (dss_fin [8] (dss_one (ds_if (dt_lend 3 (dt_not (dt_val (de_up (de_o (do_cal h__law_refused cx (by decide) (da_cons (m := .f) (de_o (do_cal h__law_with cx (by decide) (da_cons (m := .f) (de_var 3) (da_cons (m := .f) (de_var 4) (da_cons (m := .f) (de_var 6) (da_cons (m := .f) (de_var 8) da_nil)))) rfl (consA_len (consA_len (consA_len (consA_len nilA_len)))))) da_nil) rfl (consA_len nilA_len)))))))
  (dss_one (ds_ret de_bl))
  dss_nil)))))
  (dss_cons (ds_setO 10 cx.nd (do_lst (da_cons (m := .f) (de_o (do_lst da_nil)) (da_cons (m := .f) (de_add (de_varq 3) (de_up (de_o (do_lst (da_cons (m := .f) (de_ix (de_varq 3) de_int) da_nil))))) (da_cons (m := .f) (de_add (de_up (de_o (do_slice (de_varq 3) .none (.some (de_up (de_var 4)))))) (de_up (de_o (do_slice (de_varq 3) (.some (de_up (de_add (de_up (de_var 4)) de_int))) .none)))) (da_cons (m := .f) (de_o (do_comp cx (di_seqq (de_varq 3)) (blkOk_by (own := [(("row" : Str), 16)]) (by kernel_rfl)) (fun _ _ _ _ _ => (dg_name 16 cx.nd)) (fun _ _ _ _ _ => dts_nil) (fun s2 H2 C2 cl2 fp2 => (do_f (de_add (de_up (de_var 16)) (de_up (de_o (do_lst (da_cons (m := .f) de_non da_nil))))))))) (da_cons (m := .f) (de_add (de_up (de_add (de_up (de_o (do_slice (de_varq 3) .none (.some (de_up (de_var 4)))))) (de_up (de_o (do_lst (da_cons (m := .f) (de_add (de_up (de_ix (de_varq 3) (de_up (de_var 4)))) (de_up (de_o (do_lst (da_cons (m := .f) de_non da_nil))))) da_nil)))))) (de_up (de_o (do_slice (de_varq 3) (.some (de_up (de_add (de_up (de_var 4)) de_int))) .none)))) (da_cons (m := .f) (de_add (de_up (de_add (de_up (de_o (do_slice (de_varq 3) .none (.some (de_up (de_var 4)))))) (de_up (de_o (do_lst (da_cons (m := .f) (de_o (do_slice (de_up (de_ix (de_varq 3) (de_up (de_var 4)))) (.some de_int) .none)) da_nil)))))) (de_up (de_o (do_slice (de_varq 3) (.some (de_up (de_add (de_up (de_var 4)) de_int))) .none)))) da_nil))))))))
  (dss_cons (ds_setO 10 cx.nd (do_add (de_varq 10) (de_up (de_o (do_lst (da_cons (m := .f) (de_o (do_rep (do_lst (da_cons (m := .f) (de_o (do_rep (do_lst (da_cons (m := .f) de_non da_nil)) de_int)) da_nil)) de_int)) (da_cons (m := .f) (de_o (do_rep (do_lst (da_cons (m := .f) (de_o (do_rep (do_lst (da_cons (m := .f) de_non da_nil)) (de_up (de_add de_int (de_mod (de_callT bi_int (by exact rfl) G.b_int PyProof.Rows.boot_int (da_cons (m := .h) (de_up (de_var 7)) da_nil)) de_int))))) da_nil)) (de_up (de_add de_int (de_mod (de_callT bi_int (by exact rfl) G.b_int PyProof.Rows.boot_int (da_cons (m := .h) (de_up (de_var 7)) da_nil)) de_int))))) (da_cons (m := .f) (de_o (do_lst (da_cons (m := .f) (de_o (do_lst da_nil)) da_nil))) (da_cons (m := .f) (de_add (de_up (de_add (de_up (de_o (do_slice (de_varq 3) .none (.some (de_up (de_var 4)))))) (de_up (de_o (do_lst (da_cons (m := .f) (de_o (do_lst da_nil)) da_nil)))))) (de_up (de_o (do_slice (de_varq 3) (.some (de_up (de_add (de_up (de_var 4)) de_int))) .none)))) da_nil)))))))))
  (dss_cons (ds_if (dt_cm cm_gt (de_up (de_var 2)) de_int)
  (dss_cons (ds_set 6 cx.nd (de_mod (de_callT bi_int (by exact rfl) G.b_int PyProof.Rows.boot_int (da_cons (m := .h) (de_up (de_add (de_up (de_var 4)) de_int)) da_nil)) (de_up (de_var 2))))
  (dss_cons (ds_setC 11 cx (di_seqq (de_varq 3)) (blkOk_by (own := [(("row" : Str), 16)]) (by kernel_rfl)) (fun _ _ _ _ _ => (dg_name 16 cx.nd)) (fun _ _ _ _ _ => dts_nil) (fun s3 H3 C3 cl3 fp3 => (do_callT bo_list rfl G.b_list (by decide +kernel) (da_cons (m := .q) (de_up (de_var 16)) da_nil))))
  (dss_cons (ds_appPop (dr_ix (dr_var 11) (de_up (de_var 6))) (dr_ix (dr_var 11) (de_up (de_var 4))))
  (dss_one (ds_share 11 (ds_append 10 (do_f (de_var 11))))))))
  dss_nil)
  (dss_cons (ds_share 10 (ds_forget [12] (ds_for cx (di_seq (de_var 10)) (dg_name 12 cx.nd)
  (dss_fin [12] (dss_one (ds_if (dt_not (dt_val (de_up (de_o (do_cal h__law_refused cx (by decide) (da_cons (m := .f) (de_var 12) da_nil) rfl (consA_len nilA_len))))))
  (dss_one (ds_ret de_bl))
  dss_nil))))))
  (dss_cons (ds_setCF 13 cx (di_rng1 (st := false) (by exact rfl) G.b_range (da_cons (m := .h) (de_up (de_var 2)) da_nil)) (blkOk_by (own := [(("i" : Str), 4)]) (by kernel_rfl)) (fun _ _ _ _ _ => (dg_name 4 cx.nd)) (fun _ _ _ _ _ => dts_nil) (fun s4 H4 C4 cl4 fp4 => (do_f (de_o (do_comp (cx.blk s4 H4 _ _ fp4) (di_rng1 (st := false) (by exact rfl) G.b_range (da_cons (m := .h) (de_up (de_var 2)) da_nil)) (blkOk_by (own := [(("j" : Str), 6)]) (by kernel_rfl)) (fun _ _ _ _ _ => (dg_name 6 cx.nd)) (fun _ _ _ _ _ => dts_nil) (fun s5 H5 C5 cl5 fp5 => (do_f (de_tup (da_cons (m := .f) (de_sub (de_up (de_var 4)) (de_up (de_var 6))) (da_cons (m := .f) de_int da_nil))))))))))
  (dss_cons (ds_setCF 14 cx (di_rng1 (st := false) (by exact rfl) G.b_range (da_cons (m := .h) (de_up (de_var 2)) da_nil)) (blkOk_by (own := [(("k" : Str), 17)]) (by kernel_rfl)) (fun _ _ _ _ _ => (dg_name 17 cx.nd)) (fun _ _ _ _ _ => dts_nil) (fun s6 H6 C6 cl6 fp6 => (do_f (de_ix (de_up (de_o (do_lst (da_cons (m := .f) de_str (da_cons (m := .f) de_str da_nil))))) (de_band (de_shr (de_up (de_var 7)) (de_up (de_var 17))) de_int)))))
  (dss_cons (ds_if (dt_cm cm_isn (de_up (de_o (do_cal h_check_mixed cx (by decide) (da_cons (m := .f) (de_tup (da_cons (m := .f) (de_var 13) (da_cons (m := .f) (de_var 14) da_nil))) da_nil) rfl (consA_len nilA_len)))) de_non)
  (dss_one (ds_ret de_bl))
  dss_nil)
  (dss_cons (ds_forget [15] (ds_for cx (di_seq (de_o (do_lst (da_cons (m := .f) de_str (da_cons (m := .f) de_str (da_cons (m := .f) de_str (da_cons (m := .f) de_str (da_cons (m := .f) de_str (da_cons (m := .f) de_str (da_cons (m := .f) de_str (da_cons (m := .f) de_str (da_cons (m := .f) de_str (da_cons (m := .f) de_str (da_cons (m := .f) de_str (da_cons (m := .f) de_str (da_cons (m := .f) de_str (da_cons (m := .f) de_str da_nil))))))))))))))))) (dg_name 15 cx.nd)
  (dss_fin [15] (dss_one (ds_if (dt_not (dt_val (de_up (de_o (do_cal h__law_no_sides cx (by decide) (da_cons (m := .f) (de_var 13) (da_cons (m := .f) (de_add (de_up (de_add (de_up (de_o (do_slice (de_up (de_var 14)) .none (.some (de_up (de_var 4)))))) (de_up (de_o (do_lst (da_cons (m := .f) (de_var 15) da_nil)))))) (de_up (de_o (do_slice (de_up (de_var 14)) (.some (de_up (de_add (de_up (de_var 4)) de_int))) .none)))) da_nil)) rfl (consA_len (consA_len nilA_len)))))))
  (dss_one (ds_ret de_bl))
  dss_nil)))))
  (dss_cons (ds_if (dt_w (dw_or (dt_not (dt_val (de_up (de_o (do_cal h__law_no_sides cx (by decide) (da_cons (m := .f) (de_var 13) (da_cons (m := .f) (de_o (do_slice (de_up (de_var 14)) (.some de_int) .none)) da_nil)) rfl (consA_len (consA_len nilA_len))))))) (dw_or (dt_not (dt_val (de_up (de_o (do_cal h__law_no_sides cx (by decide) (da_cons (m := .f) (de_var 13) (da_cons (m := .f) (de_add (de_up (de_var 14)) (de_up (de_o (do_lst (da_cons (m := .f) de_str da_nil))))) da_nil)) rfl (consA_len (consA_len nilA_len))))))) (dw_or1 (dt_not (dt_val (de_up (de_o (do_cal h__law_no_sides cx (by decide) (da_cons (m := .f) (de_add (de_up (de_o (do_lst (da_cons (m := .f) (de_o (do_rep (do_lst (da_cons (m := .f) de_non da_nil)) (de_up (de_var 2)))) da_nil)))) (de_up (de_o (do_slice (de_up (de_var 13)) (.some de_int) .none)))) (da_cons (m := .f) (de_var 14) da_nil)) rfl (consA_len (consA_len nilA_len)))))))))))
  (dss_one (ds_ret de_bl))
  dss_nil)
  (dss_one (ds_ret (de_cm cm_is (de_up (de_o (do_cal h_check_work cx (by decide) (da_cons (m := .f) (de_o (do_rep (do_lst (da_cons (m := .f) (de_o (do_rep (do_lst (da_cons (m := .f) de_non da_nil)) de_int)) da_nil)) de_int)) da_nil) rfl (consA_len nilA_len)))) de_non)))))))))))))))))))))))))
end LX
namespace LX
open PySem PySem.Spec PyProof.Rows L2 DL
open Builtin.Int (intBits)
/-! moments as fractions of Lean, None as none -/
abbrev Q := Option Rat
def qD (q : Rat) : D := .tuple [.int q.num, .int (q.den : Int)]
def mD : Q → D
  | none => .none
  | some q => qD q
def madd : Q → Q → Q
  | some a, some b => some (a + b)
  | _, _ => none
def mlt : Q → Q → Bool
  | _, none => false
  | none, some _ => true
  | some a, some b => decide (a < b)
def mmax (a b : Q) : Q := if mlt a b then b else a
def msup (xs : List Q) : Q := xs.foldl mmax none
theorem mmax_none_l (a : Q) : mmax none a = a := by cases a <;> rfl
theorem mmax_none_r (a : Q) : mmax a none = a := by cases a <;> rfl
theorem mmax_some (a b : Rat) : mmax (some a) (some b) = some (if a < b then b else a) := by
  unfold mmax mlt
  by_cases h : a < b <;> simp [h]
theorem mmax_comm (a b : Q) : mmax a b = mmax b a := by
  cases a with
  | none => rw [mmax_none_l, mmax_none_r]
  | some a =>
    cases b with
    | none => rw [mmax_none_l, mmax_none_r]
    | some b => rw [mmax_some, mmax_some]; congr 1; grind
theorem mmax_assoc (a b c : Q) : mmax (mmax a b) c = mmax a (mmax b c) := by
  cases a with
  | none => rw [mmax_none_l, mmax_none_l]
  | some a =>
    cases b with
    | none => rw [mmax_none_l, mmax_none_r]
    | some b =>
      cases c with
      | none => rw [mmax_none_r, mmax_none_r]
      | some c => simp only [mmax_some]; congr 1; grind
theorem mmax_self (a : Q) : mmax a a = a := by
  cases a with
  | none => rfl
  | some a => rw [mmax_some]; congr 1; grind
theorem madd_comm (a b : Q) : madd a b = madd b a := by
  cases a <;> cases b <;> simp [madd, Rat.add_comm]
theorem madd_assoc (a b c : Q) : madd (madd a b) c = madd a (madd b c) := by
  cases a <;> cases b <;> cases c <;> simp [madd, Rat.add_assoc]
theorem madd_none_l (a : Q) : madd none a = none := by cases a <;> rfl
theorem madd_none_r (a : Q) : madd a none = none := by cases a <;> rfl
theorem madd_zero_l (a : Q) : madd (some 0) a = a := by cases a <;> simp [madd, Rat.zero_add]
theorem madd_zero_r (a : Q) : madd a (some 0) = a := by rw [madd_comm, madd_zero_l]
theorem madd_mmax (a b c : Q) : madd a (mmax b c) = mmax (madd a b) (madd a c) := by
  cases a with
  | none => simp [madd_none_l, mmax_none_l]
  | some a =>
    cases b with
    | none => simp [madd_none_r, mmax_none_l]
    | some b =>
      cases c with
      | none => simp [madd_none_r, mmax_none_r]
      | some c => simp only [madd, mmax_some]; congr 1; grind
theorem mmax_madd (a b c : Q) : madd (mmax b c) a = mmax (madd b a) (madd c a) := by
  rw [madd_comm, madd_mmax, madd_comm a b, madd_comm a c]
theorem foldl_mmax (xs : List Q) (a : Q) : xs.foldl mmax a = mmax a (msup xs) := by
  induction xs generalizing a with
  | nil => exact (mmax_none_r a).symm
  | cons x xs ih =>
    have e : msup (x :: xs) = mmax x (msup xs) := by
      show xs.foldl mmax (mmax none x) = _
      rw [ih, mmax_none_l]
    rw [List.foldl_cons, ih, e, mmax_assoc]
theorem msup_cons (x : Q) (xs : List Q) : msup (x :: xs) = mmax x (msup xs) := by
  rw [msup, List.foldl_cons, foldl_mmax, mmax_none_l]
theorem msup_nil : msup [] = none := rfl
theorem msup_append (xs ys : List Q) : msup (xs ++ ys) = mmax (msup xs) (msup ys) := by
  induction xs with
  | nil => rw [List.nil_append, msup_nil, mmax_none_l]
  | cons x xs ih => rw [List.cons_append, msup_cons, msup_cons, ih, mmax_assoc]
theorem madd_msup (a : Q) (xs : List Q) : madd a (msup xs) = msup (xs.map (madd a)) := by
  induction xs with
  | nil => exact madd_none_r a
  | cons x xs ih => rw [msup_cons, madd_mmax, ih, List.map_cons, msup_cons]
theorem msup_madd (a : Q) (xs : List Q) : madd (msup xs) a = msup (xs.map fun x => madd x a) := by
  rw [madd_comm, madd_msup]
  congr 1
  exact List.map_congr_left fun x _ => madd_comm a x
theorem msup_mmax {α : Type} (f g : α → Q) (xs : List α) : msup (xs.map fun x => mmax (f x) (g x)) = mmax (msup (xs.map f)) (msup (xs.map g)) := by
  induction xs with
  | nil => rfl
  | cons x xs ih =>
    simp only [List.map_cons, msup_cons, ih]
    rw [mmax_assoc, mmax_assoc, ← mmax_assoc (g x), mmax_comm (g x), mmax_assoc]
theorem msup_none {α : Type} (xs : List α) : msup (xs.map fun _ => none) = none := by
  induction xs with
  | nil => rfl
  | cons x xs ih => rw [List.map_cons, msup_cons, ih]; rfl
theorem msup_comm {α β : Type} (f : α → β → Q) (xs : List α) (ys : List β) : msup (xs.map fun x => msup (ys.map fun y => f x y)) = msup (ys.map fun y => msup (xs.map fun x => f x y)) := by
  induction xs with
  | nil => simp only [List.map_nil, msup_nil]; exact (msup_none ys).symm
  | cons x xs ih => simp only [List.map_cons, msup_cons, ih]; rw [← msup_mmax]
/-- one item stands out -/
theorem msup_one {n i : Nat} (f : Nat → Q) (h : i < n) (h0 : ∀ k, k < n → k ≠ i → f k = none) : msup ((List.range n).map f) = f i := by
  induction n with
  | zero => exact absurd h (Nat.not_lt_zero _)
  | succ n ih =>
    rw [List.range_succ, List.map_append, msup_append, List.map_cons, List.map_nil, msup_cons, msup_nil, mmax_none_r]
    by_cases e : n = i
    · subst e
      have : msup ((List.range n).map f) = none := by
        rw [List.map_congr_left (g := fun _ => none) fun k hk => h0 k (by have := List.mem_range.mp hk; omega) (by have := List.mem_range.mp hk; omega)]
        exact msup_none _
      rw [this, mmax_none_l]
    · rw [ih (by omega) fun k hk => h0 k (by omega), h0 n (by omega) e, mmax_none_r]
/-! fractions as pairs -/
def gc (t l : Int) : Nat := Nat.gcd t.natAbs l.natAbs
def dv (t l : Int) : Int := if l < 0 then -(gc t l : Int) else (gc t l : Int)
def frD (t l : Int) : D := .tuple [.int (t.fdiv (dv t l)), .int (l.fdiv (dv t l))]
theorem gc_pos {t l : Int} (h : l ≠ 0) : 0 < gc t l := Nat.gcd_pos_of_pos_right _ (by omega)
theorem dv_ne {t l : Int} (h : l ≠ 0) : dv t l ≠ 0 := by
  have := gc_pos (t := t) h
  unfold dv; split <;> omega
theorem gc_le {t l : Int} (h : l ≠ 0) : gc t l ≤ l.natAbs := Nat.gcd_le_right _ (by omega)
theorem dv_bits {t l : Int} {n : Nat} (h : l ≠ 0) (hl : intBits l ≤ n) : intBits (dv t l) ≤ n := by
  refine intBits_le_of_natAbs (y := l) ?_ hl
  have := gc_le (t := t) h
  unfold dv; split <;> omega
theorem frD_q {t l : Int} (h : l ≠ 0) : frD t l = qD (Rat.divInt t l) := by
  have hg := gc_pos (t := t) h
  have eg : l.gcd t = gc t l := by unfold gc; rw [Int.gcd, Nat.gcd_comm]
  have d1 : ((gc t l : Nat) : Int) ∣ t := by unfold gc; exact Int.ofNat_dvd_left.mpr (Nat.gcd_dvd_left _ _)
  have d2 : ((gc t l : Nat) : Int) ∣ l := by unfold gc; exact Int.ofNat_dvd_left.mpr (Nat.gcd_dvd_right _ _)
  have gn : ((gc t l : Nat) : Int) ≠ 0 := by omega
  unfold frD qD
  rw [Rat.num_divInt, Rat.den_divInt, if_neg h, eg]
  obtain ⟨a, ha⟩ := d1
  obtain ⟨b, hb⟩ := d2
  have e3 : l.natAbs / gc t l = b.natAbs := by
    have e4 : l.natAbs = gc t l * b.natAbs := by rw [congrArg Int.natAbs hb, Int.natAbs_mul]; simp
    rw [e4, Nat.mul_div_cancel_left _ hg]
  rw [e3]
  generalize hG : gc t l = G at *
  have hd : dv t l = if l < 0 then -(G : Int) else (G : Int) := by unfold dv; rw [hG]
  rw [hd]
  subst ha
  by_cases hl : l < 0
  · have hb0 : b < 0 := by
      rcases Int.lt_trichotomy b 0 with z | z | z
      · exact z
      · subst z; rw [Int.mul_zero] at hb; omega
      · have := Int.mul_pos (show (0 : Int) < G by omega) z; omega
    rw [if_pos hl, Int.sign_eq_neg_one_of_neg hl]
    have f1 : ((G : Int) * a).fdiv (-(G : Int)) = -1 * ((G : Int) * a) / (G : Int) := by
      have z : (G : Int) * a = (-(G : Int)) * (-a) := (Int.neg_mul_neg _ _).symm
      have w1 : ((G : Int) * a).fdiv (-(G : Int)) = -a := by rw [z, Int.mul_fdiv_cancel_left _ (by omega)]
      have w2 : -1 * ((G : Int) * a) / (G : Int) = -a := by rw [show -1 * ((G : Int) * a) = (G : Int) * (-a) by rw [Int.mul_neg]; omega, Int.mul_ediv_cancel_left _ gn]
      rw [w1, w2]
    have f2 : l.fdiv (-(G : Int)) = (b.natAbs : Int) := by
      have z : l = (-(G : Int)) * (-b) := by rw [hb]; exact (Int.neg_mul_neg _ _).symm
      rw [z, Int.mul_fdiv_cancel_left _ (by omega)]; omega
    rw [f1, f2]
  · have hl0 : 0 < l := by omega
    have hb0 : 0 < b := by
      rcases Int.lt_trichotomy b 0 with z | z | z
      · have := Int.mul_neg_of_pos_of_neg (show (0 : Int) < G by omega) z; omega
      · subst z; rw [Int.mul_zero] at hb; omega
      · exact z
    rw [if_neg hl, Int.sign_eq_one_of_pos hl0, Int.one_mul, Int.mul_fdiv_cancel_left _ gn, Int.mul_ediv_cancel_left _ gn]
    have f2 : l.fdiv (G : Int) = (b.natAbs : Int) := by
      rw [hb, Int.mul_fdiv_cancel_left _ gn]; omega
    rw [f2]
theorem qD_div (q : Rat) : Rat.divInt q.num (q.den : Int) = q := Rat.num_divInt_den q
theorem add_div (a b : Rat) : Rat.divInt (a.num * b.den + b.num * a.den) (a.den * b.den) = a + b := by
  have h := Rat.divInt_add_divInt a.num b.num (d₁ := (a.den : Int)) (d₂ := (b.den : Int)) (by have := a.den_nz; omega) (by have := b.den_nz; omega)
  rw [qD_div, qD_div] at h
  exact h.symm
end LX
namespace LX
open PySem PySem.Spec PyProof.Rows L2 DL
open Builtin.Int (intBits)
/-! bits of ints -/
theorem bits_abs {i : Int} {n : Nat} (h : i.natAbs < 2 ^ n) : intBits i ≤ n := intBits_le_iff.mpr h
theorem abs_bits {i : Int} {n : Nat} (h : intBits i ≤ n) : i.natAbs < 2 ^ n := intBits_le_iff.mp h
/-- both parts have few bits -/
def Bt (n : Nat) : Q → Prop
  | none => True
  | some q => intBits q.num ≤ n ∧ intBits (q.den : Int) ≤ n
theorem Bt.mono {n m : Nat} {q : Q} (b : Bt n q) (h : n ≤ m) : Bt m q := by
  cases q with
  | none => trivial
  | some q => exact ⟨Nat.le_trans b.1 h, Nat.le_trans b.2 h⟩
/-- a multiple of 1 / L, at most P / L from 0 -/
def Bd (L P : Nat) : Q → Prop
  | none => True
  | some q => ∃ p : Int, q = Rat.divInt p (L : Int) ∧ p.natAbs ≤ P
theorem Bd.mono {L P R : Nat} {q : Q} (b : Bd L P q) (h : P ≤ R) : Bd L R q := by
  cases q with
  | none => trivial
  | some q => obtain ⟨p, e, k⟩ := b; exact ⟨p, e, Nat.le_trans k h⟩
theorem bd_none {L P : Nat} : Bd L P none := trivial
theorem bd_zero {L P : Nat} : Bd L P (some 0) := ⟨0, by simp [Rat.divInt], Nat.zero_le _⟩
theorem Bd.add {L P R : Nat} (hL : 0 < L) {a b : Q} (x : Bd L P a) (y : Bd L R b) : Bd L (P + R) (madd a b) := by
  cases a with
  | none => trivial
  | some a =>
    cases b with
    | none => trivial
    | some b =>
      obtain ⟨p, rfl, hp⟩ := x
      obtain ⟨r, rfl, hr⟩ := y
      refine ⟨p + r, ?_, by omega⟩
      rw [Rat.divInt_add_divInt _ _ (by omega) (by omega), ← Int.add_mul, Rat.divInt_mul_right (by omega)]
theorem Bd.max {L P : Nat} {a b : Q} (x : Bd L P a) (y : Bd L P b) : Bd L P (mmax a b) := by
  unfold mmax; split
  · exact y
  · exact x
theorem Bd.sup {L P : Nat} {xs : List Q} (h : ∀ x ∈ xs, Bd L P x) : Bd L P (msup xs) := by
  induction xs with
  | nil => trivial
  | cons x xs ih => rw [msup_cons]; exact Bd.max (h x (List.mem_cons_self ..)) (ih fun y hy => h y (List.mem_cons_of_mem _ hy))
theorem Bd.bt {L P n : Nat} (hL : 0 < L) {q : Q} (x : Bd L P q) (h1 : P < 2 ^ n) (h2 : L < 2 ^ n) : Bt n q := by
  cases q with
  | none => trivial
  | some q =>
    obtain ⟨p, rfl, hp⟩ := x
    have l0 : (L : Int) ≠ 0 := by omega
    have e : frD p L = qD (Rat.divInt p L) := frD_q l0
    have hg := gc_pos (t := p) l0
    unfold frD qD at e
    injection e with e
    injection e with e1 e2
    injection e1 with e1
    injection e2 with e2 _
    injection e2 with e2
    refine ⟨bits_abs ?_, bits_abs ?_⟩
    · rw [← e1]
      refine Nat.lt_of_le_of_lt ?_ (Nat.lt_of_le_of_lt hp h1)
      exact Int.natAbs_fdiv_le_natAbs _ _
    · rw [← e2]
      refine Nat.lt_of_le_of_lt (Int.natAbs_fdiv_le_natAbs _ _) ?_
      simpa using h2
/-! equality of encodings -/
structure EqE {A : Type} (k : Nat) (enc : A → D) : Prop where
  can : ∀ a, (enc a).canLay0 = true
  dep : ∀ a, (enc a).depth ≤ k
  eq : ∀ a b, PyData.eqv (enc a) (enc b) = true ↔ a = b
theorem EqE.shaped {A : Type} {k : Nat} {enc : A → D} (e : EqE k enc) (h : k ≤ 64) (a : A) : SeqAt.shaped (enc a) = true := by
  unfold SeqAt.shaped
  rw [Bool.and_eq_true]
  exact ⟨e.can a, decide_eq_true (Nat.le_trans (e.dep a) h)⟩
theorem EqE.eqD {A : Type} [DecidableEq A] {k : Nat} {enc : A → D} (e : EqE k enc) (h : k ≤ 64) (a b : A) : eqD (enc a) (enc b) = .ok (.bool (decide (a = b))) := by
  unfold DL.eqD
  rw [if_pos ⟨e.shaped h a, e.shaped h b⟩]
  congr 2
  rw [Bool.eq_iff_iff, e.eq, decide_eq_true_iff]
theorem EqE.neD {A : Type} [DecidableEq A] {k : Nat} {enc : A → D} (e : EqE k enc) (h : k ≤ 64) (a b : A) : neD (enc a) (enc b) = .ok (.bool (!decide (a = b))) := by
  unfold DL.neD
  rw [if_pos ⟨e.shaped h a, e.shaped h b⟩]
  congr 3
  rw [Bool.eq_iff_iff, e.eq, decide_eq_true_iff]
theorem eq_str (a b : Str) : eqD (.str a) (.str b) = .ok (.bool (a == b)) := by
  unfold DL.eqD
  split <;> rfl
theorem ne_str (a b : Str) : neD (.str a) (.str b) = .ok (.bool (!(a == b))) := by
  unfold DL.neD
  split <;> rfl
theorem eqe_int : EqE 0 PyData.int := ⟨fun _ => rfl, fun _ => Nat.le_refl _, fun a b => by simp [PyData.eqv]⟩
theorem eqe_q : EqE 1 mD where
  can a := by cases a <;> rfl
  dep a := by
    cases a with
    | none => exact Nat.zero_le _
    | some a => exact Nat.le_refl _
  eq a b := by
    cases a with
    | none => cases b <;> simp [mD, qD, PyData.eqv]
    | some a =>
      cases b with
      | none => simp [mD, qD, PyData.eqv]
      | some b =>
        simp only [mD, qD, PyData.eqv, PyData.eqvAll, Bool.and_true, Bool.and_eq_true, beq_iff_eq, Option.some.injEq]
        exact ⟨fun h => Rat.ext h.1 (by omega), fun h => by rw [h]; exact ⟨rfl, rfl⟩⟩
theorem eqe_list {A : Type} {k : Nat} {enc : A → D} (e : EqE k enc) : EqE (k + 1) (fun xs : List A => PyData.list (xs.map enc)) where
  can xs := by
    show PyData.canLayAll0 (xs.map enc) = true
    induction xs with
    | nil => rfl
    | cons x xs ih => show (PyData.canLay0 _ && PyData.canLayAll0 _) = true; rw [e.can, ih]; rfl
  dep xs := by
    show PyData.depthAll (xs.map enc) + 1 ≤ k + 1
    have : PyData.depthAll (xs.map enc) ≤ k := by
      induction xs with
      | nil => exact Nat.zero_le _
      | cons x xs ih => exact Nat.max_le.mpr ⟨e.dep x, ih⟩
    omega
  eq xs := by
    intro ys
    show PyData.eqvAll (xs.map enc) (ys.map enc) = true ↔ xs = ys
    induction xs generalizing ys with
    | nil => cases ys <;> simp [PyData.eqvAll]
    | cons x xs ih =>
      cases ys with
      | nil => simp [PyData.eqvAll]
      | cons y ys =>
        show (PyData.eqv (enc x) (enc y) && PyData.eqvAll (xs.map enc) (ys.map enc)) = true ↔ _
        rw [Bool.and_eq_true, e.eq, ih, List.cons.injEq]
/-- vectors and works -/
def vD (v : List Q) : D := .list (v.map mD)
def wD (w : List (List Q)) : D := .list (w.map vD)
theorem eqe_v : EqE 2 vD := eqe_list eqe_q
theorem eqe_w : EqE 3 wD := eqe_list eqe_v
theorem eqe_is : EqE 1 (fun xs : List Int => PyData.list (xs.map .int)) := eqe_list eqe_int
/-! what repr shows -/
structure Sh (B k : Nat) (d : D) : Prop where
  sh : d.showable = true
  nd : d.hasDict = false
  len : d.shown.length ≤ B
  dep : d.depth ≤ k
theorem Sh.mono {B C k l : Nat} {d : D} (s : Sh B k d) (h1 : B ≤ C) (h2 : k ≤ l) : Sh C l d := ⟨s.sh, s.nd, Nat.le_trans s.len h1, Nat.le_trans s.dep h2⟩
theorem sh_none : Sh 4 0 .none := ⟨rfl, rfl, by decide, Nat.le_refl _⟩
theorem sh_int {i : Int} {n : Nat} (h : intBits i ≤ n) (hn : n ≤ 1900) (h0 : 0 < n) : Sh (n + 1) 0 (.int i) := by
  have hl : i.natAbs.log2 < n := by
    have := abs_bits h
    by_cases z : i.natAbs = 0
    · rw [z]; simpa using h0
    · exact (Nat.log2_lt z).mpr this
  refine ⟨?_, rfl, ?_, Nat.le_refl _⟩
  · show decide (i.natAbs.log2 < 1920) = true
    exact decide_eq_true (by omega)
  · have := int_text_length_le h0 hl
    show (Str.ofString (toString i)).length ≤ n + 1
    rw [PySem.ofString_length]; exact this
theorem sum_le {xs : List D} {B : Nat} (h : ∀ x ∈ xs, x.shown.length ≤ B) : ((PyData.shownAll xs).map (·.length)).sum ≤ xs.length * B ∧ (PyData.shownAll xs).length = xs.length := by
  induction xs with
  | nil => exact ⟨Nat.zero_le _, rfl⟩
  | cons x xs ih =>
    obtain ⟨h1, h2⟩ := ih fun y hy => h y (List.mem_cons_of_mem _ hy)
    refine ⟨?_, by show (PyData.shown x :: PyData.shownAll xs).length = _; rw [List.length_cons, h2]; rfl⟩
    show ((PyData.shown x :: PyData.shownAll xs).map (·.length)).sum ≤ _
    rw [List.map_cons, List.sum_cons, List.length_cons, Nat.add_mul, Nat.one_mul]
    have := h x (List.mem_cons_self ..)
    omega
theorem all_sh {xs : List D} {B k : Nat} (h : ∀ x ∈ xs, Sh B k x) : PyData.showableAll xs = true ∧ PyData.hasDictAll xs = false ∧ PyData.depthAll xs ≤ k := by
  induction xs with
  | nil => exact ⟨rfl, rfl, Nat.zero_le _⟩
  | cons x xs ih =>
    obtain ⟨h1, h2, h3⟩ := ih fun y hy => h y (List.mem_cons_of_mem _ hy)
    have := h x (List.mem_cons_self ..)
    refine ⟨?_, ?_, Nat.max_le.mpr ⟨this.dep, h3⟩⟩
    · show (PyData.showable x && PyData.showableAll xs) = true; rw [this.sh, h1]; rfl
    · show (PyData.hasDict x || PyData.hasDictAll xs) = false; rw [this.nd, h2]; rfl
theorem sh_list {xs : List D} {B k n : Nat} (h : ∀ x ∈ xs, Sh B k x) (hn : xs.length ≤ n) : Sh (n * (B + 2) + 3) (k + 1) (.list xs) := by
  obtain ⟨h1, h2, h3⟩ := all_sh h
  obtain ⟨h4, h5⟩ := sum_le fun x hx => (h x hx).len
  refine ⟨h1, h2, ?_, Nat.succ_le_succ h3⟩
  have := listText_len_le (PyData.shownAll xs)
  show (listText (PyData.shownAll xs)).length ≤ _
  have e1 : xs.length * (B + 2) = xs.length * B + xs.length * 2 := Nat.mul_add ..
  have e2 : xs.length * (B + 2) ≤ n * (B + 2) := Nat.mul_le_mul_right _ hn
  omega
theorem sh_tuple {xs : List D} {B k n : Nat} (h : ∀ x ∈ xs, Sh B k x) (hn : xs.length ≤ n) : Sh (n * (B + 2) + 3) (k + 1) (.tuple xs) := by
  obtain ⟨h1, h2, h3⟩ := all_sh h
  obtain ⟨h4, h5⟩ := sum_le fun x hx => (h x hx).len
  refine ⟨h1, h2, ?_, Nat.succ_le_succ h3⟩
  have := tupleText_len_le (PyData.shownAll xs)
  show (tupleText (PyData.shownAll xs)).length ≤ _
  have e1 : xs.length * (B + 2) = xs.length * B + xs.length * 2 := Nat.mul_add ..
  have e2 : xs.length * (B + 2) ≤ n * (B + 2) := Nat.mul_le_mul_right _ hn
  omega
theorem repr_ok {d : D} {B k : Nat} (h : Sh B k d) (hB : B ≤ 16777216) (hk : k ≤ 64) (ht : (∃ ds, d = .list ds) ∨ (∃ ds, d = .tuple ds) ∨ d = .none := by first | exact .inl ⟨_, rfl⟩ | exact .inr (.inl ⟨_, rfl⟩)) : reprD d = .ok (.str d.shown) := by
  have h2 : d.shown.length ≤ sizeLine := Nat.le_trans h.len (Nat.le_trans hB (by decide))
  have h3 : d.depth ≤ 64 := Nat.le_trans h.dep hk
  rcases ht with ⟨ds, rfl⟩ | ⟨ds, rfl⟩ | rfl
  · exact if_pos ⟨h.sh, h.nd, h3, h2⟩
  · exact if_pos ⟨h.sh, h.nd, h3, h2⟩
  · rfl
theorem sh_q {q : Q} {n : Nat} (h : Bt n q) (hn : n ≤ 1900) (h0 : 0 < n) : Sh (2 * n + 9) 1 (mD q) := by
  cases q with
  | none => exact sh_none.mono (by omega) (by omega)
  | some q =>
    refine (sh_tuple (n := 2) (B := n + 1) (k := 0) (fun x hx => ?_) (Nat.le_refl _)).mono (by omega) (Nat.le_refl _)
    rcases List.mem_cons.mp hx with z | z
    · rw [z]; exact sh_int h.1 hn h0
    · rw [List.mem_singleton.mp z]; exact sh_int h.2 hn h0
theorem sh_v {v : List Q} {n m : Nat} (h : ∀ q ∈ v, Bt n q) (hn : n ≤ 1900) (h0 : 0 < n) (hm : v.length ≤ m) : Sh (m * (2 * n + 11) + 3) 2 (vD v) :=
  sh_list (B := 2 * n + 9) (fun x hx => by obtain ⟨q, hq, e⟩ := List.mem_map.mp hx; rw [← e]; exact sh_q (h q hq) hn h0) (by simpa using hm)
theorem sh_w {w : List (List Q)} {n m : Nat} (h : ∀ v ∈ w, ∀ q ∈ v, Bt n q) (hn : n ≤ 1900) (h0 : 0 < n) (h1 : ∀ v ∈ w, v.length ≤ m) (hm : w.length ≤ m) : Sh (m * (m * (2 * n + 11) + 5) + 3) 3 (wD w) :=
  sh_list (B := m * (2 * n + 11) + 3) (fun x hx => by obtain ⟨q, hq, e⟩ := List.mem_map.mp hx; rw [← e]; exact sh_v (h q hq) hn h0 (h1 q hq)) (by simpa using hm)
end LX
namespace LX
open PySem PySem.Spec PyProof.Rows L2 DL
open Builtin.Int (intBits)
/-! works as functions of two indexes -/
def sup (n : Nat) (f : Nat → Q) : Q := msup ((List.range n).map f)
def V (n : Nat) (f : Nat → Q) : List Q := (List.range n).map f
def W (n : Nat) (f : Nat → Nat → Q) : List (List Q) := (List.range n).map fun i => V n (f i)
def mulV (n : Nat) (f : Nat → Nat → Q) (g : Nat → Q) (i : Nat) : Q := sup n fun k => madd (f i k) (g k)
def mulM (n : Nat) (f g : Nat → Nat → Q) (i j : Nat) : Q := sup n fun k => madd (f i k) (g k j)
def idleM (i j : Nat) : Q := if i = j then some 0 else none
theorem V_len (n : Nat) (f : Nat → Q) : (V n f).length = n := by simp [V]
theorem W_len (n : Nat) (f : Nat → Nat → Q) : (W n f).length = n := by simp [W]
theorem V_get {n i : Nat} (f : Nat → Q) (h : i < n) : (V n f)[i]? = some (f i) := by simp [V, h]
theorem W_get {n i : Nat} (f : Nat → Nat → Q) (h : i < n) : (W n f)[i]? = some (V n (f i)) := by simp [W, h]
theorem V_congr {n : Nat} {f g : Nat → Q} (h : ∀ i, i < n → f i = g i) : V n f = V n g := List.map_congr_left fun i hi => h i (List.mem_range.mp hi)
theorem W_congr {n : Nat} {f g : Nat → Nat → Q} (h : ∀ i j, i < n → j < n → f i j = g i j) : W n f = W n g := List.map_congr_left fun i hi => V_congr fun j hj => h i j (List.mem_range.mp hi) hj
theorem sup_congr {n : Nat} {f g : Nat → Q} (h : ∀ i, i < n → f i = g i) : sup n f = sup n g := congrArg msup (V_congr h)
theorem V_inj {n : Nat} {f g : Nat → Q} (h : V n f = V n g) {i : Nat} (hi : i < n) : f i = g i := by
  have := congrArg (fun l => l[i]?) h
  simpa [V_get, hi] using this
theorem V_of {n : Nat} {l : List Q} (h : l.length = n) : l = V n fun i => l.getD i none := by
  subst h
  apply List.ext_getElem?
  intro i
  by_cases hi : i < l.length
  · rw [V_get _ hi]; simp [hi]
  · rw [List.getElem?_eq_none (by omega), List.getElem?_eq_none (by rw [V_len]; omega)]
theorem W_of {n : Nat} {w : List (List Q)} (h : w.length = n) (hr : ∀ r ∈ w, r.length = n) : w = W n fun i j => (w.getD i []).getD j none := by
  apply List.ext_getElem?
  intro i
  by_cases hi : i < n
  · rw [W_get _ hi]
    have hi' : i < w.length := by omega
    have e : w.getD i [] = w[i] := by simp [hi']
    rw [List.getElem?_eq_getElem hi', e]
    congr 1
    exact V_of (hr _ (List.getElem_mem hi'))
  · rw [List.getElem?_eq_none (by omega), List.getElem?_eq_none (by rw [W_len]; omega)]
theorem sup_none (n : Nat) : sup n (fun _ => none) = none := msup_none _
theorem sup_one {n i : Nat} (f : Nat → Q) (h : i < n) (h0 : ∀ k, k < n → k ≠ i → f k = none) : sup n f = f i := msup_one f h h0
theorem sup_madd (n : Nat) (f : Nat → Q) (a : Q) : madd (sup n f) a = sup n fun k => madd (f k) a := by
  unfold sup; rw [msup_madd, List.map_map]; rfl
theorem madd_sup (n : Nat) (f : Nat → Q) (a : Q) : madd a (sup n f) = sup n fun k => madd a (f k) := by
  unfold sup; rw [madd_msup, List.map_map]; rfl
theorem sup_sup (n m : Nat) (f : Nat → Nat → Q) : (sup n fun i => sup m fun j => f i j) = sup m fun j => sup n fun i => f i j := msup_comm f _ _
theorem sup_max (n : Nat) (f g : Nat → Q) : (sup n fun i => mmax (f i) (g i)) = mmax (sup n f) (sup n g) := msup_mmax f g _
theorem mulM_assoc (n : Nat) (f g h : Nat → Nat → Q) (i j : Nat) : mulM n (mulM n f g) h i j = mulM n f (mulM n g h) i j := by
  unfold mulM
  simp only [sup_madd, madd_sup]
  rw [sup_sup]
  exact sup_congr fun k _ => sup_congr fun l _ => madd_assoc _ _ _
theorem mulV_mulM (n : Nat) (f g : Nat → Nat → Q) (x : Nat → Q) (i : Nat) : mulV n (mulM n f g) x i = mulV n f (mulV n g x) i := by
  unfold mulM mulV
  simp only [sup_madd, madd_sup]
  rw [sup_sup]
  exact sup_congr fun k _ => sup_congr fun l _ => madd_assoc _ _ _
theorem mulM_congr {n : Nat} {f f' g g' : Nat → Nat → Q} {i j : Nat} (hf : ∀ k, k < n → f i k = f' i k) (hg : ∀ k, k < n → g k j = g' k j) : mulM n f g i j = mulM n f' g' i j :=
  sup_congr fun k hk => by rw [hf k hk, hg k hk]
theorem mulV_congr {n : Nat} {f f' : Nat → Nat → Q} {g g' : Nat → Q} {i : Nat} (hf : ∀ k, k < n → f i k = f' i k) (hg : ∀ k, k < n → g k = g' k) : mulV n f g i = mulV n f' g' i :=
  sup_congr fun k hk => by rw [hf k hk, hg k hk]
theorem idle_mulM {n : Nat} (f : Nat → Nat → Q) {i : Nat} (j : Nat) (hi : i < n) : mulM n idleM f i j = f i j := by
  unfold mulM
  rw [sup_one _ hi fun k _ hk => by unfold idleM; rw [if_neg (Ne.symm hk)]; rfl]
  unfold idleM; rw [if_pos rfl, madd_zero_l]
theorem mulM_idle {n : Nat} (f : Nat → Nat → Q) (i : Nat) {j : Nat} (hj : j < n) : mulM n f idleM i j = f i j := by
  unfold mulM
  rw [sup_one _ hj fun k _ hk => by unfold idleM; rw [if_neg hk]; exact madd_none_r _]
  unfold idleM; rw [if_pos rfl, madd_zero_r]
theorem idle_mulV {n : Nat} (x : Nat → Q) {i : Nat} (hi : i < n) : mulV n idleM x i = x i := by
  unfold mulV
  rw [sup_one _ hi fun k _ hk => by unfold idleM; rw [if_neg (Ne.symm hk)]; rfl]
  unfold idleM; rw [if_pos rfl, madd_zero_l]
/-- all moments within bounds -/
def BdV (n L P : Nat) (g : Nat → Q) : Prop := ∀ i, i < n → Bd L P (g i)
def BdM (n L P : Nat) (f : Nat → Nat → Q) : Prop := ∀ i j, i < n → j < n → Bd L P (f i j)
theorem BdV.mono {n L P U : Nat} {g : Nat → Q} (b : BdV n L P g) (h : P ≤ U) : BdV n L U g := fun i hi => (b i hi).mono h
theorem BdM.mono {n L P U : Nat} {g : Nat → Nat → Q} (b : BdM n L P g) (h : P ≤ U) : BdM n L U g := fun i j hi hj => (b i j hi hj).mono h
theorem bd_sup {n L P : Nat} {f : Nat → Q} (h : ∀ i, i < n → Bd L P (f i)) : Bd L P (sup n f) := Bd.sup fun x hx => by
  obtain ⟨i, hi, e⟩ := List.mem_map.mp hx
  rw [← e]; exact h i (List.mem_range.mp hi)
theorem bd_mulV {n L P U : Nat} (hL : 0 < L) {f : Nat → Nat → Q} {g : Nat → Q} (hf : BdM n L P f) (hg : BdV n L U g) : BdV n L (P + U) (mulV n f g) := fun i hi => bd_sup fun k hk => Bd.add hL (hf i k hi hk) (hg k hk)
theorem bd_mulM {n L P U : Nat} (hL : 0 < L) {f g : Nat → Nat → Q} (hf : BdM n L P f) (hg : BdM n L U g) : BdM n L (P + U) (mulM n f g) := fun i j hi hj => bd_sup fun k hk => Bd.add hL (hf i k hi hk) (hg k j hk hj)
theorem bd_idle {n L P : Nat} : BdM n L P idleM := fun i j _ _ => by unfold idleM; split; exact bd_zero; trivial
theorem mem_V {n : Nat} {f : Nat → Q} {x : Q} (h : x ∈ V n f) : ∃ i, i < n ∧ x = f i := by
  obtain ⟨i, hi, e⟩ := List.mem_map.mp h
  exact ⟨i, List.mem_range.mp hi, e.symm⟩
theorem mem_W {n : Nat} {f : Nat → Nat → Q} {x : List Q} (h : x ∈ W n f) : ∃ i, i < n ∧ x = V n (f i) := by
  obtain ⟨i, hi, e⟩ := List.mem_map.mp h
  exact ⟨i, List.mem_range.mp hi, e.symm⟩
/-- k rounds -/
def rnd (n : Nat) (f : Nat → Nat → Q) : Nat → (Nat → Q) → (Nat → Q)
  | 0, g => g
  | k + 1, g => mulV n f (rnd n f k g)
theorem rnd_congr {n : Nat} {f f' : Nat → Nat → Q} {g g' : Nat → Q} (hf : ∀ i j, i < n → j < n → f i j = f' i j) (hg : ∀ i, i < n → g i = g' i) : ∀ k i, i < n → rnd n f k g i = rnd n f' k g' i
  | 0, i, hi => hg i hi
  | k + 1, i, hi => mulV_congr (fun j hj => hf i j hi hj) fun j hj => rnd_congr hf hg k j hj
theorem rnd_succ (n : Nat) (f : Nat → Nat → Q) (g : Nat → Q) : ∀ k, rnd n f (k + 1) g = rnd n f k (mulV n f g)
  | 0 => rfl
  | k + 1 => by
    show mulV n f (rnd n f (k + 1) g) = mulV n f (rnd n f k (mulV n f g))
    rw [rnd_succ n f g k]
theorem rnd_twice (n : Nat) (f : Nat → Nat → Q) (g : Nat → Q) : ∀ k, rnd n (mulM n f f) k g = rnd n f (2 * k) g
  | 0 => rfl
  | k + 1 => by
    show mulV n (mulM n f f) (rnd n (mulM n f f) k g) = mulV n f (mulV n f (rnd n f (2 * k) g))
    rw [rnd_twice n f g k]
    funext i
    exact mulV_mulM n f f _ i
/-- powers -/
def pw (n : Nat) (f : Nat → Nat → Q) : Nat → (Nat → Nat → Q)
  | 0 => idleM
  | k + 1 => mulM n (pw n f k) f
theorem bd_pw {n L P : Nat} (hL : 0 < L) {f : Nat → Nat → Q} (hf : BdM n L P f) : ∀ k, BdM n L (k * P) (pw n f k)
  | 0 => bd_idle
  | k + 1 => by rw [Nat.succ_mul]; exact bd_mulM hL (bd_pw hL hf k) hf
theorem bd_rnd {n L P U : Nat} (hL : 0 < L) {f : Nat → Nat → Q} {g : Nat → Q} (hf : BdM n L P f) (hg : BdV n L U g) : ∀ k, BdV n L (k * P + U) (rnd n f k g)
  | 0 => by rw [Nat.zero_mul, Nat.zero_add]; exact hg
  | k + 1 => by
    have := bd_mulV hL hf (bd_rnd hL hf hg k)
    exact this.mono (by rw [Nat.succ_mul]; omega)
theorem pw_add {n : Nat} (f : Nat → Nat → Q) (a : Nat) : ∀ (b i j : Nat), i < n → j < n → mulM n (pw n f a) (pw n f b) i j = pw n f (a + b) i j
  | 0, i, j, hi, hj => mulM_idle _ _ hj
  | b + 1, i, j, hi, hj => by
    show mulM n (pw n f a) (mulM n (pw n f b) f) i j = mulM n (pw n f (a + b)) f i j
    rw [← mulM_assoc]
    exact mulM_congr (fun k hk => pw_add f a b i k hi hk) fun _ _ => rfl
theorem pw_one {n : Nat} (f : Nat → Nat → Q) {i : Nat} (j : Nat) (hi : i < n) : pw n f 1 i j = f i j := idle_mulM f j hi
theorem pw_twice {n : Nat} (f : Nat → Nat → Q) : ∀ (k i j : Nat), i < n → j < n → pw n (mulM n f f) k i j = pw n f (2 * k) i j
  | 0, i, j, hi, hj => rfl
  | k + 1, i, j, hi, hj => by
    show mulM n (pw n (mulM n f f) k) (mulM n f f) i j = mulM n (mulM n (pw n f (2 * k)) f) f i j
    rw [mulM_assoc]
    exact mulM_congr (fun l hl => pw_twice f k i l hi hl) fun _ _ => rfl
theorem pw_comm {n : Nat} (f : Nat → Nat → Q) (k : Nat) {i j : Nat} (hi : i < n) (hj : j < n) : mulM n f (pw n f k) i j = pw n f (k + 1) i j := by
  have := pw_add f 1 k i j hi hj
  rw [Nat.add_comm] at this
  rw [← this]
  exact mulM_congr (fun l _ => (pw_one f l hi).symm) fun _ _ => rfl
theorem pw_rnd {n : Nat} (f : Nat → Nat → Q) (g : Nat → Q) : ∀ (k i : Nat), i < n → mulV n (pw n f k) g i = rnd n f k g i
  | 0, i, hi => idle_mulV g hi
  | k + 1, i, hi => by
    rw [show rnd n f (k + 1) g = mulV n f (rnd n f k g) from rfl]
    have : mulV n (pw n f (k + 1)) g i = mulV n (mulM n f (pw n f k)) g i := mulV_congr (fun l hl => (pw_comm f k hi hl).symm) fun _ _ => rfl
    rw [this, mulV_mulM]
    exact mulV_congr (fun _ _ => rfl) fun l hl => pw_rnd f g k l hl
end LX
namespace LX
open PySem PySem.Spec PyProof.Rows L2 DL
open Builtin.Int (intBits)
theorem mul_b {i j : Int} {m n : Nat} (hi : intBits i ≤ m) (hj : intBits j ≤ n) (h : m + n ≤ 134217728) : mulD (.int i) (.int j) = .ok (.int (i * j)) := mul_i i j (by unfold CMulX; omega)
theorem fdiv_b {i j : Int} {n : Nat} (h0 : j ≠ 0) (hj : intBits j ≤ n) (h : n ≤ 9000) : fdivD (.int i) (.int j) = .ok (.int (i.fdiv j)) := fdiv_i i j ⟨h0, by
  have : intBits j = j.natAbs.log2 + 1 := by unfold intBits; rw [if_neg (by simpa using h0)]
  omega⟩
theorem rng1_ok {n : Nat} (h : n ≤ 1000000) : rng1 [.int n] = .ok (rngL 0 n) := by
  have hb : b62 n = true := by
    unfold b62; rw [Bool.and_eq_true]; exact ⟨decide_eq_true (by omega), decide_eq_true (by omega)⟩
  unfold rng1
  simp only [hb, if_true, Int.toNat_natCast]
theorem bits_of {x : Int} {n : Nat} (h : x.natAbs < 2 ^ n) : intBits x ≤ n := intBits_le_iff.mpr h
theorem rng1_to {n : Nat} (h : n ≤ 1000000) : rng1 [.int (n : Int)] = .ok (rngL 0 n) := rng1_ok h
theorem fm_lo {x b : Int} (h : 0 < b) : 0 ≤ x.fmod b ∧ x.fmod b < b := ⟨Int.fmod_nonneg_of_pos _ h, Int.fmod_lt_of_pos _ h⟩
end LX
namespace LX
open PySem PySem.Spec PyProof.Rows L2 DL
open Builtin.Int (intBits)
def vS (v : List Q) : S := .ow (v.map fun q => .fr (mD q))
def wS (w : List (List Q)) : S := .ow (w.map vS)
theorem vS_toD (v : List Q) : (vS v).toD = vD v := by
  unfold vS vD
  rw [toD_ow, List.map_map]
  rfl
theorem wS_toD (w : List (List Q)) : (wS w).toD = wD w := by
  unfold wS wD
  rw [toD_ow, List.map_map]
  congr 1
  exact List.map_congr_left fun v _ => vS_toD v
theorem vS_flat (v : List Q) : flatS (vS v) = vS v := by
  unfold vS flatS
  simp only [toDs_map, List.map_map]
  first
    | rfl
    | (congr 1; exact List.map_congr_left fun q _ => by simp)
theorem list_V (n : Nat) (g : Nat → Q) : listD (vD (V n g)) = .ok (vS (V n g)) := by
  unfold vD V vS
  show DL.R.ok (S.ow ((((List.range n).map g).map mD).map S.fr)) = _
  rw [List.map_map]; rfl
theorem zipL_map {A B : Type} (f : A → D) (g : B → D) (xs : List A) (ys : List B) : zipL (xs.map f) (ys.map g) = (xs.zip ys).map fun p => .tuple [f p.1, g p.2] := by
  unfold zipL
  rw [List.zipWith_map, List.zip_eq_zipWith, List.map_zipWith]
theorem rngL_map (n : Nat) : rngL 0 n = (List.range n).map fun i => PyData.int (i : Nat) := by
  unfold rngL
  exact List.map_congr_left fun i _ => by simp
theorem zip_V (n : Nat) (f g : Nat → Q) : (V n f).zip (V n g) = (List.range n).map fun k => (f k, g k) := by
  unfold V
  rw [List.zip_map']
def LOk (L : Nat) : Prop := 0 < L ∧ L < 2 ^ 100
theorem Bd.bt' {L P : Nat} (hL : LOk L) {q : Q} (x : Bd L P q) {n : Nat} (h : P < 2 ^ n) (h2 : 100 ≤ n) : Bt n q := Bd.bt hL.1 x h (Nat.lt_of_lt_of_le hL.2 (Nat.pow_le_pow_right (by decide) h2))
theorem lok1 : LOk 27720 := ⟨by decide, by decide⟩
theorem lok2 : LOk 232792560 := ⟨by decide, by decide⟩
theorem rep1 {d : D} {n : Nat} (h : n ≤ 1000000) : repD (.ow [.fr d]) (.int (n : Nat)) = .ok (.ow (List.replicate n (.fr d))) := by
  have hb : b62 (n : Int) = true := by
    unfold b62; rw [Bool.and_eq_true]; exact ⟨decide_eq_true (by omega), decide_eq_true (by omega)⟩
  have hf : ∀ n : Nat, (List.replicate n [d]).flatten = List.replicate n d := fun n => by
    induction n with
    | zero => rfl
    | succ n ih => rw [List.replicate_succ, List.flatten_cons, ih, List.replicate_succ]; rfl
  unfold repD
  simp only [allF, hb, Int.toNat_natCast, Option.map_some]
  rw [if_pos ⟨trivial, by simpa using h⟩, hf, List.map_replicate]
theorem addl {xs ys : List D} (h : xs.length + ys.length ≤ 1000000) : addD (.list xs) (.list ys) = .ok (.list (xs ++ ys)) := by
  rw [add_l, if_pos (Nat.le_trans h (by decide))]
theorem ix_list (ds : List D) {i : Nat} {d : D} (h : ds[i]? = some d) : ixD (.list ds) (.int (i : Nat)) = .ok d := by
  rw [ix_l, DL.atI_nat h]
theorem ix_V {n : Nat} (f : Nat → Q) {i : Nat} (h : i < n) : ixD (vD (V n f)) (.int (i : Nat)) = .ok (mD (f i)) := ix_list _ (by rw [List.getElem?_map, V_get f h]; rfl)
theorem ix_W {n : Nat} (f : Nat → Nat → Q) {i : Nat} (h : i < n) : ixD (wD (W n f)) (.int (i : Nat)) = .ok (vD (V n (f i))) := ix_list _ (by rw [List.getElem?_map, W_get f h]; rfl)
theorem len_V (n : Nat) (f : Nat → Q) : lenD (vD (V n f)) = .ok (.int n) := by
  unfold vD; rw [len_l, List.length_map, V_len]
theorem len_W (n : Nat) (f : Nat → Nat → Q) : lenD (wD (W n f)) = .ok (.int n) := by
  unfold wD; rw [len_l, List.length_map, W_len]
theorem vD_V (n : Nat) (f : Nat → Q) : vD (V n f) = .list ((List.range n).map fun i => mD (f i)) := by
  unfold vD V; rw [List.map_map]; rfl
theorem wD_W (n : Nat) (f : Nat → Nat → Q) : wD (W n f) = .list ((List.range n).map fun i => vD (V n (f i))) := by
  unfold wD W; rw [List.map_map]; rfl
theorem vS_V (n : Nat) (f : Nat → Q) : vS (V n f) = .ow ((List.range n).map fun i => .fr (mD (f i))) := by
  unfold vS V; rw [List.map_map]; rfl
theorem wS_W (n : Nat) (f : Nat → Nat → Q) : wS (W n f) = .ow ((List.range n).map fun i => vS (V n (f i))) := by
  unfold wS W; rw [List.map_map]; rfl
end LX
namespace LX
open PySem PySem.Spec PyProof.Rows L2 DL
open Builtin.Int (intBits)
theorem sq_of {T U : En → SR} {env e1 : En} {r : SR} (h : T env = .nx e1) (h2 : U e1 = r) : sqS T U env = r := by
  rw [e_sqS, h, sq_nx, h2]
theorem endR_sq {T U : En → SR} {env e1 : En} {r : DL.R S} (h : T env = .nx e1) (h2 : endR (U e1) = r) : endR (sqS T U env) = r := by
  rw [e_sqS, h, sq_nx, h2]
theorem endR_of {a r : SR} {s : DL.R S} (h : a = r) (h2 : endR r = s) : endR a = s := by rw [h, h2]
theorem fnS_of {is : List Nat} {T : En → SR} {env e1 e2 : En} (h : T env = .nx e1) (h2 : fgE e1 is = e2) : fnS is T env = .nx e2 := by
  rw [e_fnS, h, fin_nx, h2]
theorem e_whileS {fuel : En → Nat} {t : En → DL.R Bool} {T : En → SR} {env : En} : whileS fuel t T env = whileF t T (fuel env) env := rfl
end LX
namespace LX
open PySem PySem.Spec PyProof.Rows L2 DL
open Builtin.Int (intBits)
/-- bounds that are told in every law -/
def SM (n : Nat) (f : Nat → Nat → Q) : Prop := ∀ i j, i < n → j < n → Bt 1900 (f i j)
def SV (n : Nat) (g : Nat → Q) : Prop := ∀ i, i < n → Bt 1900 (g i)
theorem BdM.sm {L n P : Nat} {f : Nat → Nat → Q} (hL : LOk L) (b : BdM n L P f) (h : P < 2 ^ 1900) : SM n f := fun i j hi hj => (b i j hi hj).bt' hL h (by decide)
theorem BdV.sv {L n P : Nat} {g : Nat → Q} (hL : LOk L) (b : BdV n L P g) (h : P < 2 ^ 1900) : SV n g := fun i hi => (b i hi).bt' hL h (by decide)
theorem sh_V {n : Nat} {g : Nat → Q} (hn : n ≤ 30) (b : SV n g) : Sh 114333 2 (vD (V n g)) :=
  (sh_v (n := 1900) (m := 30) (fun q hq => by obtain ⟨i, hi, e⟩ := mem_V hq; rw [e]; exact b i hi) (Nat.le_refl _) (by decide) (by rw [V_len]; exact hn)).mono (by decide) (Nat.le_refl _)
theorem sh_W {n : Nat} {f : Nat → Nat → Q} (hn : n ≤ 30) (b : SM n f) : Sh 3430053 3 (wD (W n f)) :=
  (sh_w (n := 1900) (m := 30) (fun v hv q hq => by
    obtain ⟨i, hi, e⟩ := mem_W hv
    rw [e] at hq
    obtain ⟨j, hj, e2⟩ := mem_V hq
    rw [e2]; exact b i j hi hj) (Nat.le_refl _) (by decide) (fun v hv => by obtain ⟨i, hi, e⟩ := mem_W hv; rw [e, V_len]; exact hn) (by rw [W_len]; exact hn)).mono (by decide) (Nat.le_refl _)
theorem repr_V {n : Nat} {g : Nat → Q} (hn : n ≤ 30) (b : SV n g) : reprD (vD (V n g)) = .ok (.str (vD (V n g)).shown) := repr_ok (sh_V hn b) (by decide) (by decide)
theorem repr_W {n : Nat} {f : Nat → Nat → Q} (hn : n ≤ 30) (b : SM n f) : reprD (wD (W n f)) = .ok (.str (wD (W n f)).shown) := repr_ok (sh_W hn b) (by decide) (by decide)
theorem repr_WV {n m : Nat} {f : Nat → Nat → Q} {g : Nat → Q} (hn : n ≤ 30) (hm : m ≤ 30) (b : SM n f) (c : SV m g) : reprD (.list [wD (W n f), vD (V m g)]) = .ok (.str (PyData.list [wD (W n f), vD (V m g)]).shown) :=
  repr_ok (sh_list (n := 2) (B := 3430053) (k := 3) (fun x hx => by
    rcases List.mem_cons.mp hx with e | e
    · rw [e]; exact sh_W hn b
    · rw [List.mem_singleton.mp e]; exact (sh_V hm c).mono (by decide) (by decide)) (Nat.le_refl 2)) (by decide) (by decide)
theorem repr_WW {n m : Nat} {f g : Nat → Nat → Q} (hn : n ≤ 30) (hm : m ≤ 30) (b : SM n f) (c : SM m g) : reprD (.list [wD (W n f), wD (W m g)]) = .ok (.str (PyData.list [wD (W n f), wD (W m g)]).shown) :=
  repr_ok (sh_list (n := 2) (B := 3430053) (k := 3) (fun x hx => by
    rcases List.mem_cons.mp hx with e | e
    · rw [e]; exact sh_W hn b
    · rw [List.mem_singleton.mp e]; exact sh_W hm c) (Nat.le_refl 2)) (by decide) (by decide)
theorem ne_VV {n m : Nat} (f g : Nat → Q) : neD (vD (V n f)) (vD (V m g)) = .ok (.bool (!decide (V n f = V m g))) := eqe_v.neD (by decide) _ _
theorem eq_VV {n m : Nat} (f g : Nat → Q) : eqD (vD (V n f)) (vD (V m g)) = .ok (.bool (decide (V n f = V m g))) := eqe_v.eqD (by decide) _ _
theorem ne_WW {n m : Nat} (f g : Nat → Nat → Q) : neD (wD (W n f)) (wD (W m g)) = .ok (.bool (!decide (W n f = W m g))) := eqe_w.neD (by decide) _ _
theorem eq_WW {n m : Nat} (f g : Nat → Nat → Q) : eqD (wD (W n f)) (wD (W m g)) = .ok (.bool (decide (W n f = W m g))) := eqe_w.eqD (by decide) _ _
theorem ne_V (n : Nat) (f : Nat → Q) : neD (vD (V n f)) (vD (V n f)) = .ok (.bool false) := by rw [ne_VV]; simp
theorem ne_W (n : Nat) (f : Nat → Nat → Q) : neD (wD (W n f)) (wD (W n f)) = .ok (.bool false) := by rw [ne_WW]; simp
theorem eq_W (n : Nat) (f : Nat → Nat → Q) : eqD (wD (W n f)) (wD (W n f)) = .ok (.bool true) := by rw [eq_WW]; simp
theorem ne_s (a : Str) : neD (.str a) (.str a) = .ok (.bool false) := by rw [ne_str]; simp
theorem eq_s (a : Str) : eqD (.str a) (.str a) = .ok (.bool true) := by rw [eq_str]; simp
end LX
namespace LX
open PySem PySem.Spec PyProof.Rows L2 DL
open Builtin.Int (intBits)
theorem bd_dvd {L N : Nat} {t d : Int} (d0 : 0 < d) (hd : d.natAbs ∣ L) (hL : 0 < L) (ht : t.natAbs ≤ N) : Bd L (N * L) (some (Rat.divInt t d)) := by
  obtain ⟨k, hk⟩ := hd
  have hk0 : 0 < k := Nat.pos_of_ne_zero fun z => by subst z; omega
  have e : (L : Int) = d * k := by rw [hk]; push_cast; congr 1; omega
  refine ⟨t * k, ?_, ?_⟩
  · rw [e, Rat.divInt_mul_right (by omega)]
  · rw [Int.natAbs_mul, Int.natAbs_natCast]
    refine Nat.mul_le_mul ht ?_
    rw [hk]
    exact Nat.le_mul_of_pos_left _ (by omega)
theorem orV_b {f g : En → DL.R D} {env : En} {a b : Bool} (hf : f env = .ok (.bool a)) (hg : g env = .ok (.bool b)) : orV f g env = .ok (.bool (a || b)) := by
  rw [e_orV, hf]; cases a with
  | true => rfl
  | false => exact hg
theorem andV_b {f g : En → DL.R D} {env : En} {a b : Bool} (hf : f env = .ok (.bool a)) (hg : g env = .ok (.bool b)) : andV f g env = .ok (.bool (a && b)) := by
  rw [e_andV, hf]; cases a with
  | true => exact hg
  | false => rfl
theorem notV_b {f : En → DL.R D} {env : En} {a : Bool} (hf : f env = .ok (.bool a)) : notV f env = .ok (.bool (!a)) := by
  rw [e_notV, hf]; rfl
theorem ix_mem (xs : List Int) {i : Int} (h0 : 0 ≤ i) (h1 : i < xs.length) : ∃ v, v ∈ xs ∧ ixD (.list (xs.map .int)) (.int i) = .ok (.int v) := by
  have hk : i.toNat < xs.length := by omega
  exact ⟨xs[i.toNat], List.getElem_mem hk, by rw [ix_l, atI_of (a := .int xs[i.toNat]) h0 (by simp [List.getElem?_eq_getElem hk])]⟩
theorem ixN_of {n : Nat} {i : Int} (h0 : 0 ≤ i) (h1 : i < n) : ixN n i = some i.toNat := by
  unfold ixN; rw [if_pos h0, if_pos h1]
theorem siS_at {f : En → DL.R S} {g : En → DL.R D} {ss : List S} {env : En} {i p : Nat} {s : S} {j : Int} (h : env[i]? = some (some (.v (.ow ss)))) (hf : f env = .ok s) (hg : g env = .ok (.int j)) (hp : ixN ss.length j = some p) : siS i f g env = .nx (env.set i (some (.v (.ow (ss.set p s))))) := by
  unfold siS
  rw [hf, R.st_ok, h]
  dsimp only
  rw [hg, R.st_ok]
  dsimp only
  rw [hp]
theorem sq_assoc {A B C : En → SR} {env : En} : sqS (sqS A B) C env = sqS A (sqS B C) env := by
  rw [e_sqS, e_sqS, e_sqS]
  cases A env <;> rfl
end LX
namespace LX
open PySem PySem.Spec PyProof.Rows L2 DL
open Builtin.Int (intBits)
/-- a fraction that a work may hold -/
def okF (t l : Int) : Bool := decide (t.natAbs ≤ 1000000) && (decide (l ≤ 1000000) && (decide (1 ≤ l) && decide (Nat.gcd t.natAbs l.natAbs = 1)))
theorem isfr_q (t l : Int) : g_is_fraction [.tuple [.int t, .int l]] = .ok (.fr (.bool (decide (1 ≤ l) && decide (Nat.gcd t.natAbs l.natAbs = 1)))) := by
  rw [b_is_fraction]
  have e : (((Nat.gcd t.natAbs l.natAbs : Nat) : Int) == 1) = decide (Nat.gcd t.natAbs l.natAbs = 1) := by
    rw [Bool.eq_iff_iff, beq_iff_eq, decide_eq_true_iff]; omega
  unfold T_is_fraction
  refine endR_of (r := .rt (.fr (.bool (decide (1 ≤ l) && decide (Nat.gcd t.natAbs l.natAbs = 1))))) ?_ rfl
  refine sq_of (e1 := [some (.v (.fr (.tuple [.int t, .int l]))), some (.v (.fr (.int t))), some (.v (.fr (.int l)))]) rfl ?_
  by_cases h : 1 ≤ l
  · simp -implicitDefEqProofs [h, e]
  · simp -implicitDefEqProofs [h]
theorem valid_q (t l : Int) : g__is_valid_fraction [.tuple [.int t, .int l]] = .ok (.fr (.bool (okF t l))) := by
  rw [b__is_valid_fraction]
  have e := isfr_q t l
  have ea : decide (((t.natAbs : Nat) : Int) ≤ 1000000) = decide (t.natAbs ≤ 1000000) := by
    rw [Bool.eq_iff_iff, decide_eq_true_iff, decide_eq_true_iff]; omega
  unfold T__is_valid_fraction
  refine endR_of (r := .rt (.fr (.bool (okF t l)))) ?_ rfl
  refine sq_of (e1 := [some (.v (.fr (.tuple [.int t, .int l]))), some (.v (.fr (.int t))), some (.v (.fr (.int l)))]) rfl ?_
  unfold okF
  by_cases h1 : t.natAbs ≤ 1000000
  · have h1' : ((t.natAbs : Nat) : Int) ≤ 1000000 := by omega
    by_cases h2 : l ≤ 1000000
    · simp -implicitDefEqProofs [e, h1, h1', h2]
    · simp -implicitDefEqProofs [e, h1, h1', h2]
  · have h1' : ¬ ((t.natAbs : Nat) : Int) ≤ 1000000 := by omega
    simp -implicitDefEqProofs [e, h1, h1']
end LX
namespace LX
open PySem PySem.Spec PyProof.Rows L2 DL
open Builtin.Int (intBits)
theorem isNo_q (q : Rat) : isNo (qD q) = false := rfl
theorem ix_q0 (q : Rat) : ixD (qD q) (.int 0) = .ok (.int q.num) := rfl
theorem ix_q1 (q : Rat) : ixD (qD q) (.int 1) = .ok (.int (q.den : Int)) := rfl
theorem isNo_mD (q : Q) : isNo (mD q) = q.isNone := by cases q <;> rfl
end LX
namespace LX
open PySem PySem.Spec PyProof.Rows L2 DL
open Builtin.Int (intBits)
/-- a loop that looks each item through -/
theorem forF_chk {A : Type} {b : D → En → Option En} {T : En → SR} (cd : A → D) (ok : A → Bool) (env : En) (c : Str) :
    ∀ xs : List A, (∀ x ∈ xs, ∃ e1, b (cd x) env = some e1 ∧ ((ok x = true ∧ T e1 = .nx env) ∨ (ok x = false ∧ ∃ e2, T e1 = .er c e2))) →
      (xs.all ok = true ∧ forF b T (xs.map cd) env = .nx env) ∨ (xs.all ok = false ∧ ∃ e2, forF b T (xs.map cd) env = .er c e2)
  | [], _ => .inl ⟨rfl, rfl⟩
  | x :: xs, h => by
    obtain ⟨e1, h1, h2⟩ := h x List.mem_cons_self
    rcases h2 with ⟨h2, h3⟩ | ⟨h2, e2, h3⟩
    · rcases forF_chk cd ok env c xs (fun y hy => h y (List.mem_cons_of_mem _ hy)) with ⟨k1, k2⟩ | ⟨k1, e2, k2⟩
      · exact .inl ⟨by rw [List.all_cons, h2, k1]; rfl, by rw [List.map_cons, forF, h1]; dsimp only; rw [h3]; exact k2⟩
      · exact .inr ⟨by rw [List.all_cons, h2, k1]; rfl, e2, by rw [List.map_cons, forF, h1]; dsimp only; rw [h3]; exact k2⟩
    · exact .inr ⟨by rw [List.all_cons, h2]; rfl, e2, by rw [List.map_cons, forF, h1]; dsimp only; rw [h3]⟩
end LX
namespace LX
open PySem PySem.Spec PyProof.Rows L2 DL
open Builtin.Int (intBits)
/-- a moment as it may be handed over -/
abbrev PM := Option (Int × Int)
def pD : PM → D
  | none => .none
  | some p => .tuple [.int p.1, .int p.2]
def okP : PM → Bool
  | none => true
  | some p => okF p.1 p.2
def rD (r : List PM) : D := .list (r.map pD)
def pwD (w : List (List PM)) : D := .list (w.map rD)
def okR (n : Nat) (r : List PM) : Bool := decide (r.length = n) && r.all okP
def okW (w : List (List PM)) : Bool := (decide (1 ≤ w.length) && decide (w.length ≤ 12)) && w.all (okR w.length)
noncomputable def CI : En → SR := (fnS [3] (ifS (andT (t2 (vf 3) cN isNotD) (notT (truR (unO (cal (consA (vf 3) nilA) g__is_valid_fraction)))))
  (erS ("BadWork" : Str))
  nxS))
noncomputable def CR : En → SR := (fnS [2, 3] (sqS (ifS (t2 (cal (consA (vf 2) nilA) (one lenD)) (vf 1) neD)
  (erS ("BadWork" : Str))
  nxS)
  (fgS [3] (forS (seqR (vf 2)) (setN 3)
  CI))))
def eC (w n r x : Option Sl) : En := [w, n, r, x]
theorem ci_g (p : PM) (w n r : Option Sl) : (okP p = true ∧ CI (eC w n r (some (.v (.fr (pD p))))) = .nx (eC w n r none)) ∨ (okP p = false ∧ ∃ e2, CI (eC w n r (some (.v (.fr (pD p))))) = .er ("BadWork" : Str) e2) := by
  unfold CI
  cases p with
  | none => exact .inl ⟨rfl, by simp -implicitDefEqProofs [eC, pD]⟩
  | some p =>
    have e := valid_q p.1 p.2
    have no : isNo (PyData.tuple [.int p.1, .int p.2]) = false := rfl
    cases hc : okF p.1 p.2 with
    | true =>
      rw [hc] at e
      exact .inl ⟨hc, by simp -implicitDefEqProofs [eC, pD, e, no]⟩
    | false =>
      rw [hc] at e
      exact .inr ⟨hc, eC w n r (some (.v (.fr (pD (some p))))), by simp -implicitDefEqProofs [eC, pD, e, no]⟩
theorem ne_nat (a b : Nat) : neD (.int a) (.int b) = .ok (.bool (!decide (a = b))) := by
  have h : ((a : Int) == (b : Int)) = decide (a = b) := by
    rw [Bool.eq_iff_iff, beq_iff_eq, decide_eq_true_iff]; omega
  rw [← h]
  simp -implicitDefEqProofs
theorem cr_g (r : List PM) (n : Nat) (w : Option Sl) : (okR n r = true ∧ CR (eC w (some (.v (.fr (.int (n : Nat))))) (some (.v (.fr (rD r)))) none) = .nx (eC w (some (.v (.fr (.int (n : Nat))))) none none)) ∨ (okR n r = false ∧ ∃ e2, CR (eC w (some (.v (.fr (.int (n : Nat))))) (some (.v (.fr (rD r)))) none) = .er ("BadWork" : Str) e2) := by
  have hl : lenD (rD r) = .ok (.int (r.length : Nat)) := by unfold rD; rw [len_l, List.length_map]
  have hne := ne_nat r.length n
  have es : seqR (vf 2) (eC w (some (.v (.fr (.int (n : Nat))))) (some (.v (.fr (rD r)))) none) = .ok (r.map pD) := rfl
  unfold okR
  by_cases h : r.length = n
  · have d1 : decide (r.length = n) = true := decide_eq_true h
    rw [d1] at hne
    rw [d1, Bool.true_and]
    have e0 : ifS (t2 (cal (consA (vf 2) nilA) (one lenD)) (vf 1) neD) (erS ("BadWork" : Str)) nxS (eC w (some (.v (.fr (.int (n : Nat))))) (some (.v (.fr (rD r)))) none) = .nx (eC w (some (.v (.fr (.int (n : Nat))))) (some (.v (.fr (rD r)))) none) := by
      simp -implicitDefEqProofs [eC, hl, hne, -ne_i]
    rcases forF_chk (b := setN 3) (T := CI) pD okP (eC w (some (.v (.fr (.int (n : Nat))))) (some (.v (.fr (rD r)))) none) ("BadWork" : Str) r (fun p _ => ⟨_, rfl, ci_g p w _ _⟩) with ⟨k1, k2⟩ | ⟨k1, e2, k2⟩
    · refine .inl ⟨k1, ?_⟩
      unfold CR
      refine fnS_of (e1 := eC w (some (.v (.fr (.int (n : Nat))))) (some (.v (.fr (rD r)))) none) ?_ rfl
      refine sq_of e0 ?_
      rw [e_fgS, e_forS]
      erw [es, R.st_ok]
      exact k2
    · refine .inr ⟨k1, e2, ?_⟩
      unfold CR
      rw [e_fnS, e_sqS, e0, sq_nx, e_fgS, e_forS]
      erw [es, R.st_ok, k2]
      rfl
  · have d1 : decide (r.length = n) = false := decide_eq_false h
    rw [d1] at hne
    rw [d1, Bool.false_and]
    refine .inr ⟨rfl, eC w (some (.v (.fr (.int (n : Nat))))) (some (.v (.fr (rD r)))) none, ?_⟩
    unfold CR
    simp -implicitDefEqProofs [eC, hl, hne, -ne_i]
theorem checkg (w : List (List PM)) : g_check_work [pwD w] = if okW w then .ok (.fr .none) else .er ("BadWork" : Str) := by
  rw [b_check_work]
  have hl : lenD (pwD w) = .ok (.int (w.length : Nat)) := by unfold pwD; rw [len_l, List.length_map]
  have es : seqR (vf 0) (eC (some (.v (.fr (pwD w)))) (some (.v (.fr (.int (w.length : Nat))))) none none) = .ok (w.map rD) := rfl
  have e1 : asS 1 (cal (consA (vf 0) nilA) (one lenD)) [some (.v (.fr (pwD w))), none, none, none] = .nx (eC (some (.v (.fr (pwD w)))) (some (.v (.fr (.int (w.length : Nat))))) none none) := by
    simp -implicitDefEqProofs [eC, hl]
  unfold T_check_work
  rw [e_sqS, e1, sq_nx, e_sqS]
  unfold okW
  by_cases h1 : 1 ≤ w.length
  · by_cases h2 : w.length ≤ 12
    · have i1 : ¬ (((w.length : Nat) : Int) < 1) := by omega
      have i2 : ¬ ((12 : Int) < ((w.length : Nat) : Int)) := by omega
      have e0 : ifS (orT (t2 (vf 1) (cI 1) ltD) (t2 (vf 1) (cI 12) gtD)) (erS ("BadWork" : Str)) nxS (eC (some (.v (.fr (pwD w)))) (some (.v (.fr (.int (w.length : Nat))))) none none) = .nx (eC (some (.v (.fr (pwD w)))) (some (.v (.fr (.int (w.length : Nat))))) none none) := by
        have j1 : decide (((w.length : Nat) : Int) < 1) = false := decide_eq_false i1
        have j2 : decide ((12 : Int) < ((w.length : Nat) : Int)) = false := decide_eq_false i2
        simp -implicitDefEqProofs only [e_ifS, e_orT, e_t2, eC, vf_s, vf_z, R.bind_ok, e_cI, lt_i, gt_i, tob_b, R.st_ok, j1, j2, e_nxS]
      rw [e0, sq_nx, e_fgS, e_forS]
      rw [decide_eq_true h1, decide_eq_true h2, Bool.true_and, Bool.true_and]
      erw [es, R.st_ok]
      rcases forF_chk (b := setN 2) (T := CR) rD (okR w.length) (eC (some (.v (.fr (pwD w)))) (some (.v (.fr (.int (w.length : Nat))))) none none) ("BadWork" : Str) w (fun r _ => ⟨_, rfl, cr_g r w.length _⟩) with ⟨k1, k2⟩ | ⟨k1, e2, k2⟩
      · rw [if_pos k1]; erw [k2]; rfl
      · rw [k1, if_neg (by simp)]; erw [k2]; rfl
    · rw [decide_eq_false h2, Bool.and_false, Bool.false_and, if_neg (by simp)]
      have i2 : (12 : Int) < ((w.length : Nat) : Int) := by omega
      have e0 : ifS (orT (t2 (vf 1) (cI 1) ltD) (t2 (vf 1) (cI 12) gtD)) (erS ("BadWork" : Str)) nxS (eC (some (.v (.fr (pwD w)))) (some (.v (.fr (.int (w.length : Nat))))) none none) = .er ("BadWork" : Str) (eC (some (.v (.fr (pwD w)))) (some (.v (.fr (.int (w.length : Nat))))) none none) := by
        have j1 : decide (((w.length : Nat) : Int) < 1) = false := decide_eq_false (by omega)
        have j2 : decide ((12 : Int) < ((w.length : Nat) : Int)) = true := decide_eq_true i2
        simp -implicitDefEqProofs only [e_ifS, e_orT, e_t2, eC, vf_s, vf_z, R.bind_ok, e_cI, lt_i, gt_i, tob_b, R.st_ok, j1, j2, e_erS]
      rw [e0]; rfl
  · rw [decide_eq_false h1, Bool.false_and, Bool.false_and, if_neg (by simp)]
    have e0 : ifS (orT (t2 (vf 1) (cI 1) ltD) (t2 (vf 1) (cI 12) gtD)) (erS ("BadWork" : Str)) nxS (eC (some (.v (.fr (pwD w)))) (some (.v (.fr (.int (w.length : Nat))))) none none) = .er ("BadWork" : Str) (eC (some (.v (.fr (pwD w)))) (some (.v (.fr (.int (w.length : Nat))))) none none) := by
      have j1 : decide (((w.length : Nat) : Int) < 1) = true := decide_eq_true (by omega)
      simp -implicitDefEqProofs only [e_ifS, e_orT, e_t2, eC, vf_s, vf_z, R.bind_ok, e_cI, lt_i, gt_i, tob_b, R.st_ok, j1, e_erS]
    rw [e0]; rfl
/-- fractions of Lean as they are handed over -/
def toP : Q → PM
  | none => none
  | some q => some (q.num, (q.den : Int))
theorem pD_toP (q : Q) : pD (toP q) = mD q := by cases q <;> rfl
theorem pwD_W (w : List (List Q)) : pwD (w.map fun r => r.map toP) = wD w := by
  unfold pwD wD
  rw [List.map_map]
  congr 1
  refine List.map_congr_left fun r _ => ?_
  show PyData.list ((r.map toP).map pD) = .list (r.map mD)
  rw [List.map_map]
  congr 1
  exact List.map_congr_left fun q _ => pD_toP q
def toQ : PM → Q
  | none => none
  | some p => some (Rat.divInt p.1 p.2)
theorem pD_toQ {p : PM} (h : okP p = true) : pD p = mD (toQ p) := by
  cases p with
  | none => rfl
  | some p =>
    obtain ⟨t, l⟩ := p
    have h' : okF t l = true := h
    unfold okF at h'
    simp only [Bool.and_eq_true, decide_eq_true_iff] at h'
    obtain ⟨_, _, h3, h4⟩ := h'
    have e := frD_q (t := t) (l := l) (by omega)
    show PyData.tuple [.int t, .int l] = qD (Rat.divInt t l)
    rw [← e]
    have hd : dv t l = 1 := by
      unfold dv gc
      rw [if_neg (by omega), h4]; rfl
    unfold frD
    rw [hd, Int.fdiv_one, Int.fdiv_one]
theorem pwD_toQ {w : List (List PM)} (h : okW w = true) : pwD w = wD (w.map fun r => r.map toQ) := by
  unfold okW at h
  rw [Bool.and_eq_true] at h
  have h2 := List.all_eq_true.mp h.2
  unfold pwD wD
  rw [List.map_map]
  congr 1
  refine List.map_congr_left fun r hr => ?_
  have h3 := h2 r hr
  unfold okR at h3
  rw [Bool.and_eq_true] at h3
  have h4 := List.all_eq_true.mp h3.2
  show PyData.list (r.map pD) = .list ((r.map toQ).map mD)
  rw [List.map_map]
  congr 1
  exact List.map_congr_left fun p hp => pD_toQ (h4 p hp)
end LX
namespace LX
open PySem PySem.Spec PyProof.Rows L2 DL
open Builtin.Int (intBits)
theorem isless_q {a b : Q} {n m : Nat} (ha : Bt n a) (hb : Bt m b) (h : n + m ≤ 100000) : g_is_less [mD a, mD b] = .ok (.fr (.bool (mlt a b))) := by
  rw [b_is_less]
  cases b with
  | none => cases a <;> simp -implicitDefEqProofs [T_is_less, mD, mlt, isNo_q]
  | some b =>
    cases a with
    | none => simp -implicitDefEqProofs [T_is_less, mD, mlt, isNo_q]
    | some a =>
      obtain ⟨a1, a2⟩ := ha
      obtain ⟨b1, b2⟩ := hb
      have e1 := mul_b a1 b2 (by omega)
      have e2 := mul_b b1 a2 (by omega)
      have e3 : (a < b) = (a.num * (b.den : Int) < b.num * (a.den : Int)) := propext (Rat.lt_iff a b)
      simp -implicitDefEqProofs [T_is_less, mD, mlt, isNo_q, ix_q0, ix_q1, e1, e2, e3]
end LX
namespace LX
open PySem PySem.Spec PyProof.Rows L2 DL
open Builtin.Int (intBits)
theorem later_q {a b : Q} {n m : Nat} (ha : Bt n a) (hb : Bt m b) (h : n + m ≤ 100000) : g_later [mD a, mD b] = .ok (.fr (mD (mmax a b))) := by
  rw [b_later]
  have e := isless_q ha hb h
  unfold mmax
  cases hc : mlt a b with
  | true => rw [hc] at e; simp -implicitDefEqProofs [T_later, e]
  | false => rw [hc] at e; simp -implicitDefEqProofs [T_later, e]
theorem bt_max {a b : Q} {n : Nat} (ha : Bt n a) (hb : Bt n b) : Bt n (mmax a b) := by
  unfold mmax; split
  · exact hb
  · exact ha
end LX
namespace LX
open PySem PySem.Spec PyProof.Rows L2 DL
open Builtin.Int (intBits)
theorem e_truB {f : En → DL.R D} {env : En} : truB f env = (f env).bind fun d => match d with | .bool b => .ok b | _ => .no := rfl
theorem qisless_q {a b : Q} {n m : Nat} (ha : Bt n a) (hb : Bt m b) (h : n + m ≤ 100000) : gq_is_less [mD a, mD b] = .ok (.fr (.bool (mlt a b))) := by
  rw [bq_is_less]
  cases b with
  | none => cases a <;> simp -implicitDefEqProofs [Tq_is_less, mD, mlt, isNo_q]
  | some b =>
    cases a with
    | none => simp -implicitDefEqProofs [Tq_is_less, mD, mlt, isNo_q]
    | some a =>
      obtain ⟨a1, a2⟩ := ha
      obtain ⟨b1, b2⟩ := hb
      have e1 := mul_b a1 b2 (by omega)
      have e2 := mul_b b1 a2 (by omega)
      have e3 : (a < b) = (a.num * (b.den : Int) < b.num * (a.den : Int)) := propext (Rat.lt_iff a b)
      simp -implicitDefEqProofs [Tq_is_less, mD, mlt, isNo_q, ix_q0, ix_q1, e1, e2, e3]
theorem qlater_q {a b : Q} {n m : Nat} (ha : Bt n a) (hb : Bt m b) (h : n + m ≤ 100000) : gq_later [mD a, mD b] = .ok (.fr (mD (mmax a b))) := by
  rw [bq_later]
  have e := qisless_q ha hb h
  have e2 : ∀ b', frO (cal (consA (vf 0) (consA (vf 1) nilA)) gq_is_less) [some (.v (.fr (mD a))), some (.v (.fr (mD b)))] = .ok (.bool b') ↔ b' = mlt a b := fun b' => by
    unfold frO
    simp -implicitDefEqProofs [e]
    exact eq_comm
  have e3 := (e2 (mlt a b)).mpr rfl
  unfold mmax
  cases hc : mlt a b with
  | true => rw [hc] at e3; simp -implicitDefEqProofs [Tq_later, e_truB, e3]
  | false => rw [hc] at e3; simp -implicitDefEqProofs [Tq_later, e_truB, e3]
theorem qlatest_q {xs : List Q} {n : Nat} (hx : ∀ x ∈ xs, Bt n x) (h : n ≤ 50000) : gq_latest [.list (xs.map mD)] = .ok (.fr (mD (msup xs))) := by
  rw [bq_latest]
  have hb : ∀ i, Bt n (msup (xs.take i)) := fun i => by
    have : ∀ ys : List Q, (∀ y ∈ ys, Bt n y) → Bt n (msup ys) := fun ys => by
      induction ys with
      | nil => intro _; trivial
      | cons y ys ih => intro hy; rw [msup_cons]; exact bt_max (hy y List.mem_cons_self) (ih fun z hz => hy z (List.mem_cons_of_mem _ hz))
    exact this _ fun y hy => hx y (List.mem_of_mem_take hy)
  obtain ⟨e', q1, y, q2⟩ := forF_at (b := setN 2) (T := fnS [] (asS 1 (frO (cal (consA (vf 1) (consA (vf 2) nilA)) gq_later)))) mD
    (fun i env => ∃ y, env = [some (.v (.fr (.list (xs.map mD)))), some (.v (.fr (mD (msup (xs.take i))))), y]) xs 0 [some (.v (.fr (.list (xs.map mD)))), some (.v (.fr .none)), none] ⟨none, rfl⟩
    (fun i x env hi ⟨y, hy⟩ => by
      subst hy
      rw [Nat.zero_add]
      have bx := hx x (List.mem_of_getElem? hi)
      have e := qlater_q (hb i) bx (by omega)
      have es : msup (xs.take (i + 1)) = mmax (msup (xs.take i)) x := by
        rw [List.take_add_one, hi, msup_append]
        show mmax _ (msup [x]) = _
        rw [msup_cons, msup_nil, mmax_none_r]
      refine ⟨_, _, rfl, .inl (show fnS [] (asS 1 (frO (cal (consA (vf 1) (consA (vf 2) nilA)) gq_later))) [some (.v (.fr (.list (xs.map mD)))), some (.v (.fr (mD (msup (xs.take i))))), some (.v (.fr (mD x)))] = .nx [some (.v (.fr (.list (xs.map mD)))), some (.v (.fr (mD (mmax (msup (xs.take i)) x)))), some (.v (.fr (mD x)))] from ?_), _, by rw [es]⟩
      have ef : frO (cal (consA (vf 1) (consA (vf 2) nilA)) gq_later) [some (.v (.fr (.list (xs.map mD)))), some (.v (.fr (mD (msup (xs.take i))))), some (.v (.fr (mD x)))] = .ok (mD (mmax (msup (xs.take i)) x)) := by
        unfold frO
        simp -implicitDefEqProofs [e]
      rw [e_fnS, e_asS, ef]
      rfl)
  subst q2
  rw [Nat.zero_add, List.take_length] at q1
  unfold Tq_latest
  refine endR_of (r := .rt (.fr (mD (msup xs)))) ?_ rfl
  refine sq_of (e1 := [some (.v (.fr (.list (xs.map mD)))), some (.v (.fr .none)), none]) rfl ?_
  refine sq_of (e1 := [some (.v (.fr (.list (xs.map mD)))), some (.v (.fr (mD (msup xs)))), y]) (by
    have ec : seqL (vf 0) [some (.v (.fr (.list (xs.map mD)))), some (.v (.fr .none)), none] = .ok (xs.map mD) := rfl
    rw [e_fgS, e_forS]
    erw [ec, R.st_ok]
    exact q1) ?_
  rfl
end LX
namespace LX
open PySem PySem.Spec PyProof.Rows L2 DL
open Builtin.Int (intBits)
theorem anyF_map {A : Type} {b : D → En → Option En} {f : En → DL.R D} {env : En} (cd : A → D) (p : A → Bool) : ∀ zs : List A, (∀ z ∈ zs, ∃ e, b (cd z) env = some e ∧ f e = .ok (.bool (p z))) → anyF b f env (zs.map cd) = .ok (zs.map p)
  | [], _ => rfl
  | z :: zs, h => by
    obtain ⟨e, h1, h2⟩ := h z List.mem_cons_self
    have ih := anyF_map (f := f) (b := b) (env := env) cd p zs fun x hx => h x (List.mem_cons_of_mem _ hx)
    rw [List.map_cons, List.map_cons, anyF, h1]
    dsimp only
    rw [h2, ih]
    rfl
theorem gex_zip {A B : Type} {vs : List Nat} {i j : Nat} {fs : En → DL.R (List D)} {f : En → DL.R D} {env : En} {k : List Bool → Bool} {xs : List A} {ys : List B} (cd : A → D) (ce : B → D) (p : A → B → Bool) (ha : fs env = .ok [.list (xs.map cd), .list (ys.map ce)])
    (h : ∀ x y, (x, y) ∈ xs.zip ys → f (((wipeE env vs).set i (some (.v (.fr (cd x))))).set j (some (.v (.fr (ce y))))) = .ok (.bool (p x y))) :
    gexR vs (cal fs zip2) (tupG 2 (consG (setN i) (consG (setN j) nilG))) f k env = .ok (.bool (k ((xs.zip ys).map fun z => p z.1 z.2))) := by
  have e : zip2 [.list (xs.map cd), .list (ys.map ce)] = .ok ((xs.zip ys).map fun p : A × B => PyData.tuple [cd p.1, ce p.2]) := by
    show DL.R.ok (zipL (xs.map cd) (ys.map ce)) = _
    rw [zipL_map]
  have ec : cal fs zip2 env = .ok ((xs.zip ys).map fun p : A × B => PyData.tuple [cd p.1, ce p.2]) := by rw [e_cal, ha, R.bind_ok, e]
  unfold gexR
  rw [ec]
  dsimp only
  rw [anyF_map (b := tupG 2 (consG (setN i) (consG (setN j) nilG))) (f := f) (env := wipeE env vs) (fun p : A × B => PyData.tuple [cd p.1, ce p.2]) (fun z => p z.1 z.2) (xs.zip ys) (fun z hz => ⟨_, rfl, h z.1 z.2 hz⟩)]
end LX
namespace LX
open PySem PySem.Spec PyProof.Rows L2 DL
open Builtin.Int (intBits)
theorem hasempty_q {w : List (List Q)} {n : Nat} (hw : ∀ r ∈ w, ∀ x ∈ r, Bt n x) (h : n ≤ 50000) : g_has_empty_row [wD w] = .ok (.fr (.bool (w.any fun r => (msup r).isNone))) := by
  rw [b_has_empty_row]
  have ha := anyF_map (b := setN 1) (f := b2 (frO (cal (consA (vf 1) nilA) gq_latest)) cN isD) (env := wipeE [some (.v (.fr (wD w))), none] [1]) vD (fun r => (msup r).isNone) w (fun r hr => by
    refine ⟨_, rfl, ?_⟩
    have e := qlatest_q (hw r hr) h
    have e' : gq_latest [vD r] = .ok (.fr (mD (msup r))) := e
    have ef : frO (cal (consA (vf 1) nilA) gq_latest) [some (.v (.fr (wD w))), some (.v (.fr (vD r)))] = .ok (mD (msup r)) := by
      unfold frO
      simp -implicitDefEqProofs [e']
    show b2 (frO (cal (consA (vf 1) nilA) gq_latest)) cN isD [some (.v (.fr (wD w))), some (.v (.fr (vD r)))] = _
    rw [e_b2, ef, R.bind_ok, e_cN, R.bind_ok]
    cases msup r <;> rfl)
  unfold T_has_empty_row
  have eg : gexR [1] (seqL (vf 0)) (setN 1) (b2 (frO (cal (consA (vf 1) nilA) gq_latest)) cN isD) anyK [some (.v (.fr (wD w))), none] = .ok (.bool (w.any fun r => (msup r).isNone)) := by
    unfold gexR
    rw [show seqL (vf 0) [some (.v (.fr (wD w))), none] = .ok (w.map vD) from rfl]
    dsimp only
    rw [ha]
    show DL.R.ok (PyData.bool ((w.map fun r => (msup r).isNone).any id)) = _
    rw [List.any_map]
    rfl
  rw [e_rtS, eg]
  rfl
end LX
namespace LX
open PySem PySem.Spec PyProof.Rows L2 DL
open Builtin.Int (intBits)
theorem bt_div {t l : Int} {n : Nat} (h : l ≠ 0) (ht : intBits t ≤ n) (hl : intBits l ≤ n) : Bt n (some (Rat.divInt t l)) := by
  have e := frD_q (t := t) h
  unfold frD qD at e
  injection e with e
  injection e with e1 e
  injection e with e2 e
  injection e1 with e1
  injection e2 with e2
  show intBits _ ≤ n ∧ intBits _ ≤ n
  rw [← e1, ← e2]
  exact ⟨intBits_fdiv_le ht, intBits_fdiv_le hl⟩
theorem bt_add {a b : Q} {n m : Nat} (ha : Bt n a) (hb : Bt m b) : Bt (n + m + 1) (madd a b) := by
  cases a with
  | none => trivial
  | some a => cases b with
    | none => trivial
    | some b =>
      show Bt _ (some (a + b))
      rw [← add_div]
      obtain ⟨a1, a2⟩ := ha
      obtain ⟨b1, b2'⟩ := hb
      have d0 : ((a.den : Int) * b.den) ≠ 0 := Int.mul_ne_zero (by have := a.den_pos; omega) (by have := b.den_pos; omega)
      refine bt_div d0 ?_ ?_
      · exact Nat.le_trans (intBits_add_le (intBits_mul_le a1 b2') (intBits_mul_le b1 a2)) (by omega)
      · exact Nat.le_trans (intBits_mul_le a2 b2') (by omega)
theorem bt_max2 {n : Nat} {a b : Q} (ha : Bt n a) (hb : Bt n b) : Bt n (mmax a b) := by unfold mmax; split <;> assumption
theorem bt_msup {n : Nat} {xs : List Q} (h : ∀ x ∈ xs, Bt n x) : Bt n (msup xs) := by
  induction xs with
  | nil => trivial
  | cons x xs ih => rw [msup_cons]; exact bt_max2 (h x List.mem_cons_self) (ih fun y hy => h y (List.mem_cons_of_mem _ hy))
end LX
namespace LX
open PySem PySem.Spec PyProof.Rows L2 DL
open Builtin.Int (intBits)
def okS (s : Str) : Bool := s == ("late" : Str) || s == ("early" : Str)
def sidesD (ss : List Str) : D := .list (ss.map .str)
def mixD (w : List (List PM)) (ss : List Str) : D := .tuple [pwD w, sidesD ss]
def emptyR (w : List (List PM)) : Bool := w.any fun r => r.all Option.isNone
def okM (w : List (List PM)) (ss : List Str) : Bool := okW w && (decide (ss.length = w.length) && (ss.all okS && !emptyR w))
theorem late_ok : PyData.strOk ("late" : Str) = true := by decide +kernel
theorem early_ok : PyData.strOk ("early" : Str) = true := by decide +kernel
theorem notin_side (s : Str) (hs : PyData.strOk s = true) : notInD (.str s) (.tuple [.str ("late" : Str), .str ("early" : Str)]) = .ok (.bool (!okS s)) := by
  unfold notInD inD
  have h1 : SeqAt.shaped (PyData.str s) = true := by unfold SeqAt.shaped; simp [PyData.canLay0, PyData.depth, hs]
  have h2 : SeqAt.shaped (PyData.tuple [.str ("late" : Str), .str ("early" : Str)]) = true := by unfold SeqAt.shaped; simp [PyData.canLay0, PyData.canLayAll0, PyData.depth, PyData.depthAll, late_ok, early_ok]
  dsimp only
  rw [if_pos ⟨h1, h2⟩, R.bind_ok]
  have e : ∀ a b : Str, PyData.eqv (.str a) (.str b) = (b == a) := fun a b => by
    show (a == b) = _
    rw [Bool.eq_iff_iff, beq_iff_eq, beq_iff_eq]
    exact ⟨fun h => h.symm, fun h => h.symm⟩
  unfold okS
  simp only [List.any_cons, List.any_nil, Bool.or_false, e]
theorem okF_bt {t l : Int} (h : okF t l = true) : Bt 24 (some (Rat.divInt t l)) := by
  unfold okF at h
  simp only [Bool.and_eq_true, decide_eq_true_iff] at h
  obtain ⟨h1, h2, h3, _⟩ := h
  exact bt_div (by omega) (bits_of (by omega)) (bits_of (by omega))
theorem okW_bt {w : List (List PM)} (h : okW w = true) : ∀ r ∈ w.map fun r => r.map toQ, ∀ x ∈ r, Bt 24 x := fun r hr x hx => by
  obtain ⟨r0, hr0, rfl⟩ := List.mem_map.mp hr
  obtain ⟨p, hp, rfl⟩ := List.mem_map.mp hx
  unfold okW at h
  rw [Bool.and_eq_true] at h
  have h3 := List.all_eq_true.mp h.2 _ hr0
  unfold okR at h3
  rw [Bool.and_eq_true] at h3
  have h4 := List.all_eq_true.mp h3.2 _ hp
  cases p with
  | none => trivial
  | some p => exact okF_bt h4
theorem msup_isNone : ∀ r : List Q, (msup r).isNone = r.all Option.isNone
  | [] => rfl
  | x :: xs => by
    rw [msup_cons, List.all_cons, ← msup_isNone xs]
    cases x with
    | none => rw [mmax_none_l]; rfl
    | some x => cases msup xs with
      | none => rfl
      | some y => rw [mmax_some]; rfl
theorem empty_g {w : List (List PM)} (h : okW w = true) : g_has_empty_row [pwD w] = .ok (.fr (.bool (emptyR w))) := by
  rw [pwD_toQ h, hasempty_q (okW_bt h) (by decide)]
  have e : ((w.map fun r => r.map toQ).any fun r => (msup r).isNone) = emptyR w := by
    unfold emptyR
    rw [List.any_map]
    congr 1
    funext r
    show (msup (r.map toQ)).isNone = _
    rw [msup_isNone, List.all_map]
    congr 1
    funext p
    show (toQ p).isNone = p.isNone
    cases p <;> rfl
  rw [e]
noncomputable def CS : En → SR := (fnS [3] (ifS (t2 (vf 3) (tupR (consA (cS ("late" : Str)) (consA (cS ("early" : Str)) nilA))) notInD)
  (erS ("BadWork" : Str))
  nxS))
def eM (m w s x : Option Sl) : En := [m, w, s, x]
theorem cs_g (s : Str) (hs : PyData.strOk s = true) (m w ss : Option Sl) : (okS s = true ∧ CS (eM m w ss (some (.v (.fr (.str s))))) = .nx (eM m w ss none)) ∨ (okS s = false ∧ ∃ e2, CS (eM m w ss (some (.v (.fr (.str s))))) = .er ("BadWork" : Str) e2) := by
  have e := notin_side s hs
  unfold CS
  cases hc : okS s with
  | true =>
    rw [hc] at e
    exact .inl ⟨rfl, by simp -implicitDefEqProofs [eM, e]⟩
  | false =>
    rw [hc] at e
    exact .inr ⟨rfl, eM m w ss (some (.v (.fr (.str s)))), by simp -implicitDefEqProofs [eM, e]⟩
theorem checkm (w : List (List PM)) (ss : List Str) (hss : ∀ s ∈ ss, PyData.strOk s = true) : g_check_mixed [mixD w ss] = if okM w ss then .ok (.fr .none) else .er ("BadWork" : Str) := by
  rw [b_check_mixed]
  have ec := checkg w
  have hl : lenD (pwD w) = .ok (.int (w.length : Nat)) := by unfold pwD; rw [len_l, List.length_map]
  have hs : lenD (sidesD ss) = .ok (.int (ss.length : Nat)) := by unfold sidesD; rw [len_l, List.length_map]
  have hne := ne_nat ss.length w.length
  obtain ⟨m, hm⟩ : ∃ m, m = mixD w ss := ⟨_, rfl⟩
  have e1 : asG (tupG 2 (consG (setN 1) (consG (setN 2) nilG))) (vf 0) [some (.v (.fr (mixD w ss))), none, none, none] = .nx (eM (some (.v (.fr m))) (some (.v (.fr (pwD w)))) (some (.v (.fr (sidesD ss)))) none) := by rw [hm]; rfl
  unfold T_check_mixed
  rw [e_sqS, e1, sq_nx, e_sqS]
  unfold okM
  cases h1 : okW w with
  | false =>
    rw [h1] at ec
    have e2 : exS (unO (cal (consA (vf 1) nilA) g_check_work)) (eM (some (.v (.fr m))) (some (.v (.fr (pwD w)))) (some (.v (.fr (sidesD ss)))) none) = .er ("BadWork" : Str) (eM (some (.v (.fr m))) (some (.v (.fr (pwD w)))) (some (.v (.fr (sidesD ss)))) none) := by
      simp -implicitDefEqProofs [eM, ec]
    rw [e2]; rfl
  | true =>
    rw [h1] at ec
    have e2 : exS (unO (cal (consA (vf 1) nilA) g_check_work)) (eM (some (.v (.fr m))) (some (.v (.fr (pwD w)))) (some (.v (.fr (sidesD ss)))) none) = .nx (eM (some (.v (.fr m))) (some (.v (.fr (pwD w)))) (some (.v (.fr (sidesD ss)))) none) := by
      simp -implicitDefEqProofs [eM, ec]
    rw [e2, sq_nx, Bool.true_and, e_sqS]
    by_cases h2 : ss.length = w.length
    · rw [decide_eq_true h2, Bool.true_and]
      rw [decide_eq_true h2] at hne
      have e3 : ifS (t2 (cal (consA (vf 2) nilA) (one lenD)) (cal (consA (vf 1) nilA) (one lenD)) neD) (erS ("BadWork" : Str)) nxS (eM (some (.v (.fr m))) (some (.v (.fr (pwD w)))) (some (.v (.fr (sidesD ss)))) none) = .nx (eM (some (.v (.fr m))) (some (.v (.fr (pwD w)))) (some (.v (.fr (sidesD ss)))) none) := by
        simp -implicitDefEqProofs [eM, hl, hs, hne, -ne_i]
      rw [e3, sq_nx, e_sqS, e_fgS, e_forS]
      have es : seqR (vf 2) (eM (some (.v (.fr m))) (some (.v (.fr (pwD w)))) (some (.v (.fr (sidesD ss)))) none) = .ok (ss.map PyData.str) := rfl
      erw [es, R.st_ok]
      rcases forF_chk (b := setN 3) (T := CS) PyData.str okS (eM (some (.v (.fr m))) (some (.v (.fr (pwD w)))) (some (.v (.fr (sidesD ss)))) none) ("BadWork" : Str) ss (fun s hs => ⟨_, rfl, cs_g s (hss s hs) _ _ _⟩) with ⟨k1, k2⟩ | ⟨k1, e2, k2⟩
      · erw [k2]
        rw [sq_nx, k1, Bool.true_and]
        have e4 := empty_g h1
        cases hc : emptyR w with
        | true => rw [hc] at e4; simp -implicitDefEqProofs [eM, e4]
        | false => rw [hc] at e4; simp -implicitDefEqProofs [eM, e4]
      · erw [k2]
        rw [k1]; rfl
    · rw [decide_eq_false h2]
      rw [decide_eq_false h2] at hne
      have e3 : ifS (t2 (cal (consA (vf 2) nilA) (one lenD)) (cal (consA (vf 1) nilA) (one lenD)) neD) (erS ("BadWork" : Str)) nxS (eM (some (.v (.fr m))) (some (.v (.fr (pwD w)))) (some (.v (.fr (sidesD ss)))) none) = .er ("BadWork" : Str) (eM (some (.v (.fr m))) (some (.v (.fr (pwD w)))) (some (.v (.fr (sidesD ss)))) none) := by
        simp -implicitDefEqProofs [eM, hl, hs, hne, -ne_i]
      rw [e3]; rfl
end LX
namespace LX
open PySem PySem.Spec PyProof.Rows L2 DL
open Builtin.Int (intBits)
theorem enu_map {A : Type} (cd : A → D) : ∀ (xs : List A) (k : Nat), enuL k (xs.map cd) = (xs.zipIdx k).map fun p => PyData.tuple [.int (p.2 : Nat), cd p.1]
  | [], _ => rfl
  | x :: xs, k => by rw [List.map_cons, enuL, enu_map cd xs (k + 1), List.zipIdx_cons, List.map_cons]
theorem enu_V (n : Nat) (g : Nat → Q) : enu1 [vD (V n g)] = .ok ((List.range n).map fun k => .tuple [.int (k : Nat), mD (g k)]) := by
  show DL.R.ok (enuL 0 ((V n g).map mD)) = _
  rw [enu_map]
  congr 1
  apply List.ext_getElem?
  intro k
  unfold V
  by_cases hk : k < n
  · simp [hk]
  · rw [List.getElem?_eq_none (by simp; omega), List.getElem?_eq_none (by simp; omega)]
end LX
namespace LX
open PySem PySem.Spec PyProof.Rows L2 DL
open Builtin.Int (intBits)
theorem comp_rng {vs : List Nat} {i n : Nat} {fs : En → DL.R (List D)} {elt : En → DL.R S} {env : En} {g : Nat → S} (ha : fs env = .ok [.int (n : Nat)]) (hn : n ≤ 1000000)
    (h : ∀ k, k < n → elt ((wipeE env vs).set i (some (.v (.fr (.int (k : Nat)))))) = .ok (g k)) : compR vs (cal fs rng1) (setN i) yesT elt env = .ok (.ow ((List.range n).map g)) := by
  have hc := compF_map (b := setN i) (f := elt) (env := wipeE env vs) (fun k : Nat => PyData.int (k : Nat)) g (List.range n) (fun k hk => ⟨_, rfl, h k (List.mem_range.mp hk)⟩)
  rw [e_compR, e_cal, ha, R.bind_ok, rng1_ok hn, R.bind_ok, rngL_map, if_pos (by rw [List.length_map, List.length_range]; exact hn), hc]
theorem comp_seq {A : Type} {vs : List Nat} {i : Nat} {fa : En → DL.R D} {elt : En → DL.R S} {env : En} {xs : List A} (cd : A → D) (g : A → S) (ha : fa env = .ok (.list (xs.map cd))) (hn : xs.length ≤ 1000000)
    (h : ∀ x ∈ xs, elt ((wipeE env vs).set i (some (.v (.fr (cd x))))) = .ok (g x)) : compR vs (seqR fa) (setN i) yesT elt env = .ok (.ow (xs.map g)) := by
  have hc := compF_map (b := setN i) (f := elt) (env := wipeE env vs) cd g xs (fun x hx => ⟨_, rfl, h x hx⟩)
  have e : seqR fa env = .ok (xs.map cd) := by unfold seqR; rw [ha]; rfl
  rw [e_compR, e, R.bind_ok, if_pos (by rw [List.length_map]; exact hn), hc]
theorem comp_zip {A B : Type} {vs : List Nat} {i j : Nat} {fs : En → DL.R (List D)} {elt : En → DL.R S} {env : En} {xs : List A} {ys : List B} (cd : A → D) (ce : B → D) (g : A → B → S) (ha : fs env = .ok [.list (xs.map cd), .list (ys.map ce)]) (hn : xs.length ≤ 1000000)
    (h : ∀ x y, (x, y) ∈ xs.zip ys → elt (((wipeE env vs).set i (some (.v (.fr (cd x))))).set j (some (.v (.fr (ce y))))) = .ok (g x y)) :
    compR vs (cal fs zip2) (tupG 2 (consG (setN i) (consG (setN j) nilG))) yesT elt env = .ok (.ow ((xs.zip ys).map fun p => g p.1 p.2)) := by
  have hc := compF_map (b := tupG 2 (consG (setN i) (consG (setN j) nilG))) (f := elt) (env := wipeE env vs) (fun p : A × B => PyData.tuple [cd p.1, ce p.2]) (fun p => g p.1 p.2) (xs.zip ys) (fun p hp => ⟨_, rfl, h p.1 p.2 hp⟩)
  have e : zip2 [.list (xs.map cd), .list (ys.map ce)] = .ok ((xs.zip ys).map fun p : A × B => PyData.tuple [cd p.1, ce p.2]) := by
    show DL.R.ok (zipL (xs.map cd) (ys.map ce)) = _
    rw [zipL_map]
  rw [e_compR, e_cal, ha, R.bind_ok, e, R.bind_ok, if_pos (by rw [List.length_map, List.length_zip]; omega), hc]
end LX
namespace LX
open PySem PySem.Spec PyProof.Rows L2 DL
open Builtin.Int (intBits)
def wPS (w : List (List PM)) : S := .ow (w.map fun r => .ow (r.map fun p => .fr (pD p)))
theorem wPS_toD (w : List (List PM)) : (wPS w).toD = pwD w := by
  unfold wPS pwD
  rw [toD_ow, List.map_map]
  refine congrArg PyData.list (List.map_congr_left fun r _ => ?_)
  show (S.ow (r.map fun p => .fr (pD p))).toD = rD r
  unfold rD
  rw [toD_ow, List.map_map]
  exact congrArg PyData.list (List.map_congr_left fun p _ => toD_fr _)
theorem setP_w {w : List (List PM)} {a b : Nat} {m : PM} (ha : a < w.length) : setP (wPS w) [a] (((w[a]).map fun p => S.fr (pD p)).set b (.fr (pD m))) = wPS (w.set a ((w[a]).set b m)) := by
  unfold wPS setP
  congr 1
  apply List.ext_getElem?
  intro k
  rw [List.getElem?_modify]
  by_cases hk : a = k
  · subst hk
    simp [ha, setP, List.map_set]
  · simp [hk]
/-- row a's item b is stored anew -/
theorem siP_w {i : Nat} {env : En} {w : List (List PM)} {f : En → DL.R S} {g h : En → DL.R D} {a b : Nat} {m : PM} (e : env[i]? = some (some (.v (wPS w)))) (hf : f env = .ok (.fr (pD m))) (hg : g env = .ok (.int (a : Nat))) (hh : h env = .ok (.int (b : Nat))) (ha : a < w.length) (hb : b < (w[a]).length) :
    siP i (rfX i (rfV i) g) f h env = .nx (env.set i (some (.v (wPS (w.set a ((w[a]).set b m)))))) := by
  have e1 : rfV i env = .ok [] := by unfold rfV; rw [e]
  have e2 : rfX i (rfV i) g env = .ok [a] := by
    unfold rfX
    rw [e1, R.bind_ok, hg, R.bind_ok, e]
    show (match ixN (w.map fun r => S.ow (r.map fun p => .fr (pD p))).length (a : Int) with | some n => DL.R.ok ([] ++ [n]) | none => .no) = _
    rw [List.length_map, ixN_of (by omega) (by omega)]
    rfl
  unfold siP
  rw [hf, R.st_ok, e2, R.st_ok, e]
  have e3 : getP (wPS w) [a] = some ((w[a]).map fun p => S.fr (pD p)) := by
    unfold wPS getP
    simp [ha, getP]
  dsimp only
  rw [e3]
  dsimp only
  unfold putS
  rw [hh, R.st_ok]
  dsimp only
  rw [List.length_map, ixN_of (by omega) (by omega)]
  dsimp only
  have e4 : setP (wPS w) [a] (((w[a]).map fun p => S.fr (pD p)).set b (.fr (pD m))) = wPS (w.set a ((w[a]).set b m)) := by
    unfold wPS setP
    congr 1
    apply List.ext_getElem?
    intro k
    rw [List.getElem?_modify]
    by_cases hk : a = k
    · subst hk
      simp [ha, setP, List.map_set]
    · simp [hk]
  rw [Int.toNat_natCast, e4]
theorem noT_v (v : List Q) : noT (vS v) = true := by
  unfold vS
  show noTs (v.map fun q => S.fr (mD q)) = true
  induction v with
  | nil => rfl
  | cons q v ih => show (noT (.fr (mD q)) && noTs _) = true; rw [ih]; rfl
theorem comp_enu {n : Nat} {vs : List Nat} {i j : Nat} {fs : En → DL.R (List D)} {elt : En → DL.R S} {env : En} (cd : Nat → D) (g : Nat → S) (ha : fs env = .ok [.list ((List.range n).map cd)]) (hn : n ≤ 1000000)
    (h : ∀ k, k < n → elt (((wipeE env vs).set i (some (.v (.fr (.int (k : Nat)))))).set j (some (.v (.fr (cd k))))) = .ok (g k)) :
    compR vs (cal fs enu1) (tupG 2 (consG (setN i) (consG (setN j) nilG))) yesT elt env = .ok (.ow ((List.range n).map g)) := by
  have hc := compF_map (b := tupG 2 (consG (setN i) (consG (setN j) nilG))) (f := elt) (env := wipeE env vs) (fun k : Nat => PyData.tuple [.int (k : Nat), cd k]) g (List.range n) (fun k hk => ⟨_, rfl, h k (List.mem_range.mp hk)⟩)
  have e : enu1 [.list ((List.range n).map cd)] = .ok ((List.range n).map fun k : Nat => PyData.tuple [.int (k : Nat), cd k]) := by
    show DL.R.ok (enuL 0 ((List.range n).map cd)) = _
    rw [enu_map]
    congr 1
    apply List.ext_getElem?
    intro k
    by_cases hk : k < n
    · simp [hk]
    · rw [List.getElem?_eq_none (by simp; omega), List.getElem?_eq_none (by simp; omega)]
  rw [e_compR, e_cal, ha, R.bind_ok, e, R.bind_ok, if_pos (by rw [List.length_map, List.length_range]; exact hn), hc]
/-! repr of works that are handed over -/
def smP (p : PM) : Prop := ∀ t l, p = some (t, l) → intBits t ≤ 24 ∧ intBits l ≤ 24
theorem sh_pD {p : PM} (h : smP p) : Sh 57 1 (pD p) := by
  cases p with
  | none => exact sh_none.mono (by decide) (by decide)
  | some p =>
    obtain ⟨t, l⟩ := p
    obtain ⟨h1, h2⟩ := h t l rfl
    refine (sh_tuple (n := 2) (B := 25) (k := 0) (fun x hx => ?_) (Nat.le_refl _)).mono (by decide) (Nat.le_refl _)
    rcases List.mem_cons.mp hx with z | z
    · rw [z]; exact sh_int h1 (by decide) (by decide)
    · rw [List.mem_singleton.mp z]; exact sh_int h2 (by decide) (by decide)
def smW (w : List (List PM)) : Prop := w.length ≤ 16 ∧ ∀ r ∈ w, r.length ≤ 16 ∧ ∀ p ∈ r, smP p
theorem sh_pwD {w : List (List PM)} (h : smW w) : Sh 15187 3 (pwD w) :=
  (sh_list (n := 16) (B := 947) (k := 2) (fun x hx => by
    obtain ⟨r, hr, rfl⟩ := List.mem_map.mp hx
    obtain ⟨h1, h2⟩ := h.2 r hr
    exact (sh_list (n := 16) (B := 57) (k := 1) (fun y hy => by
      obtain ⟨p, hp, rfl⟩ := List.mem_map.mp hy
      exact sh_pD (h2 p hp)) (by rw [List.length_map]; exact h1)).mono (by decide) (by decide)) (by rw [List.length_map]; exact h.1)).mono (by decide) (by decide)
def smS (ss : List Str) : Prop := ss.length ≤ 16 ∧ ∀ s ∈ ss, Sh 40 0 (.str s)
theorem sh_sidesD {ss : List Str} (h : smS ss) : Sh 675 1 (sidesD ss) :=
  (sh_list (n := 16) (B := 40) (k := 0) (fun x hx => by
    obtain ⟨s, hs, rfl⟩ := List.mem_map.mp hx
    exact h.2 s hs) (by rw [List.length_map]; exact h.1)).mono (by decide) (by decide)
theorem sh_mixD {w : List (List PM)} {ss : List Str} (h1 : smW w) (h2 : smS ss) : Sh 30381 4 (mixD w ss) := by
  unfold mixD
  exact (sh_tuple (xs := [pwD w, sidesD ss]) (n := 2) (B := 15187) (k := 3) (fun x hx => by
    rcases List.mem_cons.mp hx with z | z
    · rw [z]; exact sh_pwD h1
    · rw [List.mem_singleton.mp z]; exact (sh_sidesD h2).mono (by decide) (by decide)) (Nat.le_refl 2)).mono (by decide) (by decide)
theorem sh_bad {ms : List (List (List PM) × List Str)} (hl : ms.length ≤ 12) (h : ∀ m ∈ ms, smW m.1 ∧ smS m.2) : reprD (.list (ms.map fun m => mixD m.1 m.2)) = .ok (.str (PyData.list (ms.map fun m => mixD m.1 m.2)).shown) :=
  repr_ok (sh_list (n := 12) (B := 30381) (k := 4) (fun x hx => by
    obtain ⟨m, hm, rfl⟩ := List.mem_map.mp hx
    exact sh_mixD (h m hm).1 (h m hm).2) (by rw [List.length_map]; exact hl)) (by decide) (by decide)
theorem repr_mix {w : List (List PM)} {ss : List Str} {n : Nat} {g : Nat → Q} (h1 : smW w) (h2 : smS ss) (hn : n ≤ 30) (hg : SV n g) : reprD (.list [mixD w ss, vD (V n g)]) = .ok (.str (PyData.list [mixD w ss, vD (V n g)]).shown) :=
  repr_ok (sh_list (n := 2) (B := 114333) (k := 4) (fun x hx => by
    rcases List.mem_cons.mp hx with z | z
    · rw [z]; exact (sh_mixD h1 h2).mono (by decide) (by decide)
    · rw [List.mem_singleton.mp z]; exact (sh_V hn hg).mono (by decide) (by decide)) (Nat.le_refl 2)) (by decide) (by decide)
end LX
namespace LX
open PySem PySem.Spec PyProof.Rows L2 DL
open Builtin.Int (intBits)
theorem cut_map {A B : Type} (f : A → B) (ds : List A) (lo hi : Option Int) : DL.cutD (ds.map f) lo hi = (DL.cutD ds lo hi).map f := by
  unfold DL.cutD
  rw [List.length_map, List.map_take, List.map_drop]
theorem cut_le {A : Type} (ds : List A) (lo hi : Option Int) : (DL.cutD ds lo hi).length ≤ ds.length := by
  unfold DL.cutD
  rw [List.length_take, List.length_drop]
  omega

theorem cut_len {ns : List Int} (h : ns.length ≤ 63) (lo hi : Option Int) : (DL.cutD ns lo hi).length ≤ 1000 := Nat.le_trans (cut_le ns lo hi) (by omega)
end LX
namespace LX
open PySem PySem.Spec PyProof.Rows L2 DL
open Builtin.Int (intBits)
def PW (n : Nat) (R : Nat → List PM) : List (List PM) := (List.range n).map R
theorem PW_len (n : Nat) (R : Nat → List PM) : (PW n R).length = n := by unfold PW; rw [List.length_map, List.length_range]
theorem PW_get {n : Nat} {R : Nat → List PM} {a : Nat} (h : a < (PW n R).length) : (PW n R)[a] = R a := by
  have h' : a < n := by rwa [PW_len] at h
  apply Option.some.inj
  rw [← List.getElem?_eq_getElem h]
  unfold PW
  simp [h']
theorem toPW (n : Nat) (R : Nat → List PM) : DL.R.ok (S.ow ((List.range n).map fun k => .fr (rD (R k)))).toD = .ok (pwD (PW n R)) := by
  unfold pwD PW
  rw [toD_ow, List.map_map, List.map_map]
  exact congrArg (fun x => DL.R.ok (PyData.list x)) (List.map_congr_left fun k _ => toD_fr _)
def sideS (b : Bool) : Str := if b then ("late" : Str) else ("early" : Str)
theorem rD_app (r q : List PM) (h : r.length ≤ 12) (hq : q.length ≤ 12 := by decide) : addD (rD r) (.list (q.map pD)) = .ok (rD (r ++ q)) := by
  unfold rD
  rw [addl (by rw [List.length_map, List.length_map]; omega), List.map_append]
theorem sD_app (r q : List Str) (h : r.length ≤ 12) (hq : q.length ≤ 12 := by decide) : addD (sidesD r) (.list (q.map .str)) = .ok (sidesD (r ++ q)) := by
  unfold sidesD
  rw [addl (by rw [List.length_map, List.length_map]; omega), List.map_append]

theorem okW_row {w : List (List PM)} {r : List PM} (hr : r ∈ w) (h : okR w.length r = false) : okW w = false := by
  have : w.all (okR w.length) = false := by
    rw [List.all_eq_false]
    exact ⟨r, hr, by rw [h]; simp⟩
  unfold okW
  rw [this, Bool.and_false]
theorem okR_len {n : Nat} {r : List PM} (h : r.length ≠ n) : okR n r = false := by
  unfold okR; rw [decide_eq_false h, Bool.false_and]
theorem okR_p {n : Nat} {r : List PM} {p : PM} (hp : p ∈ r) (h : okP p = false) : okR n r = false := by
  have : r.all okP = false := by rw [List.all_eq_false]; exact ⟨p, hp, by rw [h]; simp⟩
  unfold okR; rw [this, Bool.and_false]
theorem okM_w {w : List (List PM)} {ss : List Str} (h : okW w = false) : okM w ss = false := by unfold okM; rw [h, Bool.false_and]
theorem okM_l {w : List (List PM)} {ss : List Str} (h : ss.length ≠ w.length) : okM w ss = false := by unfold okM; rw [decide_eq_false h, Bool.false_and, Bool.and_false]
theorem okM_s {w : List (List PM)} {ss : List Str} {s : Str} (hs : s ∈ ss) (h : okS s = false) : okM w ss = false := by
  have : ss.all okS = false := by rw [List.all_eq_false]; exact ⟨s, hs, by rw [h]; simp⟩
  unfold okM; rw [this, Bool.false_and, Bool.and_false, Bool.and_false]
theorem okM_e {w : List (List PM)} {ss : List Str} (h : emptyR w = true) : okM w ss = false := by
  unfold okM; rw [h]; simp
def gdS (s : Str) : Prop := PyData.strOk s = true ∧ Sh 40 0 (.str s)
theorem gd_side (b : Bool) : gdS (sideS b) := by
  cases b
  · exact ⟨early_ok, ⟨rfl, rfl, by decide +kernel, Nat.le_refl _⟩⟩
  · exact ⟨late_ok, ⟨rfl, rfl, by decide +kernel, Nat.le_refl _⟩⟩
theorem ix_memA {A : Type} (cd : A → D) (xs : List A) {i : Int} (h0 : 0 ≤ i) (h1 : i < xs.length) : ∃ v, v ∈ xs ∧ ixD (.list (xs.map cd)) (.int i) = .ok (cd v) := by
  have hk : i.toNat < xs.length := by omega
  exact ⟨xs[i.toNat], List.getElem_mem hk, by rw [ix_l, atI_of (a := cd xs[i.toNat]) h0 (by simp [List.getElem?_eq_getElem hk])]⟩
theorem smP_toP {q : Q} (h : Bt 24 q) : smP (toP q) := fun t l e => by
  cases q with
  | none => cases e
  | some q => cases e; exact h
theorem PW_mem {n : Nat} {R : Nat → List PM} {k : Nat} (h : k < n) : R k ∈ PW n R := List.mem_map.mpr ⟨k, List.mem_range.mpr h, rfl⟩
theorem smW_PW {n : Nat} {R : Nat → List PM} (hn : n ≤ 16) (h : ∀ k, k < n → (R k).length ≤ 16 ∧ ∀ p ∈ R k, smP p) : smW (PW n R) := ⟨by rw [PW_len]; exact hn, fun r hr => by
  obtain ⟨k, hk, rfl⟩ := List.mem_map.mp hr
  exact h k (List.mem_range.mp hk)⟩
theorem cut_drop {A : Type} (xs : List A) : DL.cutD xs (some 1) none = xs.drop 1 := by
  unfold DL.cutD
  cases xs with
  | nil => rfl
  | cons x xs =>
    have e1 : HT.sIx (x :: xs).length 0 (some 1) = 1 := by
      unfold HT.sIx; simp
    have e2 : HT.sIx (x :: xs).length (x :: xs).length none = (x :: xs).length := rfl
    rw [e1, e2, List.drop_one, List.tail_cons, List.length_cons, Nat.add_sub_cancel, List.take_length]
theorem slc_rD (r : List PM) : slcD (rD r) (some 1) none = .ok (.ow ((r.drop 1).map fun p => .fr (pD p))) := by
  unfold rD
  rw [slc_l, cut_drop, List.map_drop, List.map_map]
  rw [List.map_drop]; rfl
theorem slc_sD (r : List Str) : (slcD (sidesD r) (some 1) none).bind (fun s => DL.R.ok s.toD) = .ok (sidesD (r.drop 1)) := by
  unfold sidesD
  rw [slc_l, cut_drop, R.bind_ok, toD_ow, List.map_map, ← List.map_drop]
  exact congrArg (fun x => DL.R.ok (PyData.list x)) ((List.map_congr_left (f := S.toD ∘ S.fr) (g := fun x => x) fun k _ => toD_fr k).trans (List.map_id' _))
end LX
namespace LX
open PySem PySem.Spec PyProof.Rows L2 DL
open Builtin.Int (intBits)
/-- y = x[a]; y[b] = m, the row by its own name -/
theorem alS_w {i r : Nat} {env : En} {w : List (List PM)} {f : En → DL.R S} {g h : En → DL.R D} {a b : Nat} {m : PM} (e : env[i]? = some (some (.v (wPS w)))) (hri : r ≠ i) (hrl : r < env.length) (hf : f (env.set r none) = .ok (.fr (pD m))) (hg : g env = .ok (.int (a : Nat))) (hh : h (env.set r none) = .ok (.int (b : Nat))) (ha : a < w.length) (hb : b < (w[a]).length) :
    alS i r (rfX i (rfV i) g) f h env = .nx ((env.set r none).set i (some (.v (wPS (w.set a ((w[a]).set b m)))))) := by
  have e1 : rfV i env = .ok [] := by unfold rfV; rw [e]
  have e2 : rfX i (rfV i) g env = .ok [a] := by
    unfold rfX
    rw [e1, R.bind_ok, hg, R.bind_ok, e]
    show (match ixN (w.map fun r => S.ow (r.map fun p => .fr (pD p))).length (a : Int) with | some n => DL.R.ok ([] ++ [n]) | none => .no) = _
    rw [List.length_map, ixN_of (by omega) (by omega)]
    rfl
  unfold alS
  rw [e2, R.st_ok, e]
  dsimp only
  rw [if_neg (by omega)]
  have e3 : getP (wPS w) [a] = some ((w[a]).map fun p => S.fr (pD p)) := by
    unfold wPS getP
    simp [ha, getP]
  rw [e3]
  dsimp only
  rw [hf, R.st_ok]
  unfold putS
  rw [hh, R.st_ok]
  dsimp only
  rw [List.length_map, ixN_of (by omega) (by omega)]
  dsimp only
  rw [Int.toNat_natCast, setP_w ha]
theorem with_q {w : List (List PM)} {a b : Nat} {m : PM} (hl : w.length ≤ 1000000) (ha : a < w.length) (hb : b < (w[a]).length) : g__law_with [pwD w, .int (a : Nat), .int (b : Nat), pD m] = .ok (wPS (w.set a ((w[a]).set b m))) := by
  rw [b__law_with]
  unfold T__law_with
  have hc : compR [5] (seqR (vf 0)) (setN 5) yesT (cal (consA (vq 5) nilA) (one listD)) [some (.v (.fr (pwD w))), some (.v (.fr (.int (a : Nat)))), some (.v (.fr (.int (b : Nat)))), some (.v (.fr (pD m))), none, none] = .ok (wPS w) := by
    rw [comp_seq (xs := w) rD (fun r => .ow (r.map fun p => .fr (pD p))) rfl hl (fun r _ => by
      simp -implicitDefEqProofs [rD, Function.comp_def])]
    rfl
  refine endR_of (r := .rt (wPS (w.set a ((w[a]).set b m)))) ?_ rfl
  refine sq_of (e1 := [some (.v (.fr (pwD w))), some (.v (.fr (.int (a : Nat)))), some (.v (.fr (.int (b : Nat)))), some (.v (.fr (pD m))), some (.v (wPS w)), none]) (by rw [e_asO, hc, R.st_ok]; rfl) ?_
  refine sq_of (e1 := [some (.v (.fr (pwD w))), some (.v (.fr (.int (a : Nat)))), some (.v (.fr (.int (b : Nat)))), some (.v (.fr (pD m))), some (.v (wPS (w.set a ((w[a]).set b m)))), none]) (alS_w (i := 4) (r := 5) (a := a) (b := b) (m := m) rfl (by decide) (by simp) (by simp -implicitDefEqProofs) (by simp -implicitDefEqProofs) (by simp -implicitDefEqProofs) ha hb) ?_
  simp -implicitDefEqProofs
end LX
namespace LX
open PySem PySem.Spec PyProof.Rows L2 DL
open Builtin.Int (intBits)
/-! draws -/
def stepD (free : Bool) (s : List Int × Int × Int) (l : Int) : List Int × Int × Int :=
  if free = true ∧ s.2.1 > 1 then (s.1 ++ [s.2.1.fmod l], s.2.1.fdiv l, s.2.2)
  else (s.1 ++ [(((((s.2.2 * 48271 + 11).fmod 2147483647) * 69621 + 7).fmod 2147483647).fdiv 13).fmod l], s.2.1, (((s.2.2 * 48271 + 11).fmod 2147483647) * 69621 + 7).fmod 2147483647)
def frD0 (c : Int) : Bool := if c < 0 then true else decide (1000000000000000000 ≤ c)
def drawL (c : Int) (ls : List Int) : List Int := (ls.foldl (stepD (frD0 c)) ([], (c.natAbs : Int), ((c.natAbs : Int).fmod 2147483647))).1
theorem st_lo (x : Int) : 0 ≤ x.fmod 2147483647 ∧ x.fmod 2147483647 < 2147483647 := ⟨Int.fmod_nonneg_of_pos _ (by decide), Int.fmod_lt_of_pos _ (by decide)⟩
theorem draws_ok {c : Int} {ls : List Int} (hl : ∀ l ∈ ls, 0 < l ∧ l < 2 ^ 60) (hn : ls.length ≤ 1000) : g__law_draws [.int c, .list (ls.map .int)] = .ok (.ow ((drawL c ls).map fun i => .fr (.int i))) := by
  rw [b__law_draws]
  have hw := @forF_goI (List Int × Int × Int) Int (setN 6)
    (fnS [6] (ifS (andT (truR (vf 5)) (t2 (vf 3) (cI 1) gtD)) (sqS (apS 2 (frR (b2 (cal (consA (vf 3) nilA) (one DL.intD)) (vf 6) modD))) (asS 3 (b2 (vf 3) (vf 6) fdivD)))
      (sqS (asS 4 (b2 (cal (consA (b2 (b2 (vf 4) (cI 48271) mulD) (cI 11) addD) nilA) (one DL.intD)) (cI 2147483647) modD))
      (sqS (asS 4 (b2 (cal (consA (b2 (b2 (vf 4) (cI 69621) mulD) (cI 7) addD) nilA) (one DL.intD)) (cI 2147483647) modD))
      (apS 2 (frR (b2 (cal (consA (b2 (vf 4) (cI 13) fdivD) nilA) (one DL.intD)) (vf 6) modD)))))))
    (fun s => [some (.v (.fr (.int c))), some (.v (.fr (.list (ls.map .int)))), some (.v (.ow (s.1.map fun i => .fr (.int i)))), some (.v (.fr (.int s.2.1))), some (.v (.fr (.int s.2.2))), some (.v (.fr (.bool (frD0 c)))), none])
    .int (stepD (frD0 c)) ls ([], (c.natAbs : Int), ((c.natAbs : Int).fmod 2147483647))
    (fun s rest => s.1.length + rest.length ≤ 1000 ∧ (∀ l ∈ rest, 0 < l ∧ l < 2 ^ 60) ∧ 0 ≤ s.2.2 ∧ s.2.2 < 2147483647)
    ⟨by simpa using hn, hl, st_lo _⟩
    (fun s l rest h => by
      obtain ⟨xs, r, t⟩ := s
      obtain ⟨h1, h2, h3, h4⟩ := h
      simp only at h1 h3 h4
      obtain ⟨l0, l1⟩ := h2 l List.mem_cons_self
      have hrest : ∀ x ∈ rest, 0 < x ∧ x < 2 ^ 60 := fun x m => h2 x (List.mem_cons_of_mem _ m)
      have hlen : xs.length + 1 + rest.length ≤ 1000 := by rw [List.length_cons] at h1; omega
      have ez : l ≠ 0 := by omega
      have e1 : ∀ i : Int, modD (.int i) (.int l) = .ok (.int (i.fmod l)) := fun i => mod_i _ _ ez
      have e2 : ∀ i : Int, fdivD (.int i) (.int l) = .ok (.int (i.fdiv l)) := fun i => fdiv_b (n := 60) ez (bits_of (by omega)) (by decide)
      have e3 : ∀ i : Int, modD (.int i) (.int 2147483647) = .ok (.int (i.fmod 2147483647)) := fun i => mod_i _ _ (by decide)
      have e4 : ∀ i : Int, fdivD (.int i) (.int 13) = .ok (.int (i.fdiv 13)) := fun i => fdiv_b (n := 4) (by decide) (by decide) (by decide)
      have e5 : ∀ i j : Int, 0 ≤ i → i < 2147483647 → intBits j ≤ 20 → mulD (.int i) (.int j) = .ok (.int (i * j)) := fun i j p q w => mul_b (m := 31) (bits_of (by omega)) w (by decide)
      have e6 := e5 t 48271 h3 h4 (by decide)
      have e7 := e5 ((t * 48271 + 11).fmod 2147483647) 69621 (st_lo _).1 (st_lo _).2 (by decide)
      have hx : (xs.map fun i => S.fr (.int i)).length < 1000000 := by rw [List.length_map]; omega
      by_cases hf : frD0 c = true ∧ r > 1
      · have g1 : (decide (1 < r)) = true := decide_eq_true hf.2
        refine ⟨_, rfl, ?_, ?_⟩
        · simp -implicitDefEqProofs [stepD, hf.1, hf.2, g1, e1, e2, apS_at, show xs.length < 1000000 by omega]
        · simp only [stepD, hf.1, hf.2, and_self, if_true]
          refine ⟨by simpa using hlen, hrest, h3, h4⟩
      · refine ⟨_, rfl, ?_, ?_⟩
        · cases hf1 : frD0 c with
          | false => simp -implicitDefEqProofs [stepD, hf1, e1, e3, e4, e6, e7, apS_at, show xs.length < 1000000 by omega]
          | true =>
            have hr : ¬ (1 < r) := fun z => hf ⟨hf1, z⟩
            simp -implicitDefEqProofs [stepD, hf1, hr, e1, e3, e4, e6, e7, apS_at, show xs.length < 1000000 by omega]
        · simp only [stepD, if_neg hf]
          refine ⟨by simpa using hlen, hrest, st_lo _⟩)
  have e0 : modD (.int (c.natAbs : Int)) (.int 2147483647) = .ok (.int ((c.natAbs : Int).fmod 2147483647)) := mod_i _ _ (by decide)
  have e1 : powD (.int 10) (.int 18) = .ok (.int 1000000000000000000) := by rw [pow_i _ _ (by decide)]; rfl
  simp -implicitDefEqProofs at hw
  unfold drawL
  by_cases hc : c < 0
  · have hz : frD0 c = true := by unfold frD0; rw [if_pos hc]
    rw [hz] at hw ⊢
    simp -implicitDefEqProofs [T__law_draws, e0, hc, hw]
  · have hz : frD0 c = decide (1000000000000000000 ≤ c) := by unfold frD0; rw [if_neg hc]
    rw [hz] at hw ⊢
    simp -implicitDefEqProofs [T__law_draws, e0, e1, hc, hw]
theorem draw_inv (free : Bool) : ∀ (ls : List Int) (s : List Int × Int × Int) (pr : List Int), s.1.length = pr.length → (∀ l ∈ ls, 0 < l) → (∀ i, i < pr.length → 0 ≤ s.1.getD i 0 ∧ s.1.getD i 0 < pr.getD i 0) →
    (ls.foldl (stepD free) s).1.length = (pr ++ ls).length ∧ ∀ i, i < (pr ++ ls).length → 0 ≤ (ls.foldl (stepD free) s).1.getD i 0 ∧ (ls.foldl (stepD free) s).1.getD i 0 < (pr ++ ls).getD i 0
  | [], s, pr, h1, _, h2 => by simpa using ⟨h1, h2⟩
  | l :: ls, s, pr, h1, h0, h2 => by
    have hl := h0 l List.mem_cons_self
    have key : ∃ x, (stepD free s l).1 = s.1 ++ [x] ∧ 0 ≤ x ∧ x < l := by
      unfold stepD
      split
      · exact ⟨_, rfl, Int.fmod_nonneg_of_pos _ hl, Int.fmod_lt_of_pos _ hl⟩
      · exact ⟨_, rfl, Int.fmod_nonneg_of_pos _ hl, Int.fmod_lt_of_pos _ hl⟩
    obtain ⟨x, k1, k2, k3⟩ := key
    have ih := draw_inv free ls (stepD free s l) (pr ++ [l]) (by rw [k1]; simp [h1]) (fun y m => h0 y (List.mem_cons_of_mem _ m)) (fun i hi => by
      rw [k1]
      by_cases hp : i < pr.length
      · have := h2 i hp
        rw [List.getD_eq_getElem?_getD, List.getD_eq_getElem?_getD] at this
        rw [List.getD_eq_getElem?_getD, List.getD_eq_getElem?_getD, List.getElem?_append_left (by omega), List.getElem?_append_left hp]
        exact this
      · have he : i = pr.length := by simp at hi; omega
        subst he
        rw [List.getD_eq_getElem?_getD, List.getD_eq_getElem?_getD, List.getElem?_append_right (by omega), List.getElem?_append_right (by omega), h1]
        simpa using ⟨k2, k3⟩)
    simpa using ih
theorem drawL_ok {c : Int} {ls : List Int} (hl : ∀ l ∈ ls, 0 < l) : (drawL c ls).length = ls.length ∧ ∀ i, i < ls.length → 0 ≤ (drawL c ls).getD i 0 ∧ (drawL c ls).getD i 0 < ls.getD i 0 := by
  have := draw_inv (frD0 c) ls ([], (c.natAbs : Int), ((c.natAbs : Int).fmod 2147483647)) [] rfl hl (fun i h => absurd h (Nat.not_lt_zero _))
  unfold drawL
  simpa using this
theorem gl_len1 {xs : List Int} {n : Nat} (h : xs.length = n + 1) : ∃ x ys, xs = x :: ys ∧ ys.length = n := by
  cases xs with
  | nil => simp at h
  | cons x ys => exact ⟨x, ys, rfl, by simpa using h⟩
end LX
namespace LX
open PySem PySem.Spec PyProof.Rows L2 DL
open Builtin.Int (intBits)
/-! the greatest common divisor -/
def stepG (s : Nat × Nat) (_ : Nat) : Sum (Nat × Nat) SR := if s.2 = 0 then .inr (.rt (.fr (.int s.1))) else .inl (s.2, s.1 % s.2)
theorem foldG : ∀ (ds : List Nat) (n a b : Nat), n < ds.length → b ≤ a → a * b < 2 ^ n → foldX stepG ds (a, b) = .inr (.rt (.fr (.int (Nat.gcd a b))))
  | [], n, a, b, h, _, _ => absurd h (Nat.not_lt_zero _)
  | d :: ds, n, a, b, h, hb, hm => by
    unfold foldX
    by_cases hz : b = 0
    · subst hz; simp [stepG]
    · simp only [stepG, hz, if_false]
      cases n with
      | zero => exact absurd (Nat.mul_eq_zero.mp (Nat.lt_one_iff.mp hm)) (by omega)
      | succ n =>
        have hr := Nat.mod_lt a (Nat.pos_of_ne_zero hz)
        have e : 2 * (a % b) ≤ a := by
          have h1 := Nat.div_add_mod a b
          have h2 : 1 ≤ a / b := (Nat.one_le_div_iff (Nat.pos_of_ne_zero hz)).mpr hb
          have h3 : b * 1 ≤ b * (a / b) := Nat.mul_le_mul_left b h2
          omega
        have h4 : 2 * (b * (a % b)) ≤ a * b := by
          have h5 := Nat.mul_le_mul_left b e
          rw [Nat.mul_comm a b]
          calc 2 * (b * (a % b)) = b * (2 * (a % b)) := by rw [Nat.mul_left_comm]
            _ ≤ b * a := h5
        have ih := foldG ds n b (a % b) (by simpa using h) (Nat.le_of_lt hr) (by rw [Nat.pow_succ] at hm; omega)
        rw [ih, Nat.gcd_comm a b, Nat.gcd_rec b a, Nat.gcd_comm]
theorem foldG' {ds : List Nat} {n a b : Nat} (h : n + 1 < ds.length) (hm : a * b < 2 ^ n) : foldX stepG ds (a, b) = .inr (.rt (.fr (.int (Nat.gcd a b)))) := by
  by_cases hb : b ≤ a
  · exact foldG ds n a b (by omega) hb hm
  · cases ds with
    | nil => exact absurd h (Nat.not_lt_zero _)
    | cons d ds =>
      unfold foldX
      simp only [stepG, show b ≠ 0 by omega, if_false, Nat.mod_eq_of_lt (show a < b by omega)]
      rw [foldG ds n b a (by simpa using h) (by omega) (by rwa [Nat.mul_comm]), Nat.gcd_comm]
theorem nab (i : Int) : (if i < 0 then -i else i) = (i.natAbs : Int) := by omega
theorem gcd_ok {a b : Int} {m n : Nat} (ha : intBits a ≤ m) (hb : intBits b ≤ n) (h : m + n ≤ 900000) : g__law_gcd [.int a, .int b] = .ok (.fr (.int (Nat.gcd a.natAbs b.natAbs))) := by
  rw [b__law_gcd]
  have hA : intBits (a.natAbs : Int) = intBits a := by unfold intBits; simp
  have hB : intBits (b.natAbs : Int) = intBits b := by unfold intBits; simp
  have hl := @forF_fold (Nat × Nat) Nat (setN 2) (fnS [2, 3] (sqS (ifS (t2 (vf 1) (cI 0) eqD) (rtS (vf 0)) nxS) (sqS (asS 3 (b2 (cal (consA (vf 0) nilA) (one intD)) (vf 1) modD)) (sqS (asS 0 (vf 1)) (asS 1 (vf 3))))))
    (fun s => [some (.v (.fr (.int s.1))), some (.v (.fr (.int s.2))), none, none]) (fun i => .int (0 + (i : Nat))) stepG (List.range (intBits a + intBits b + 4)) (a.natAbs, b.natAbs) (fun _ => True) trivial
    (fun s d _ _ => by
      refine ⟨_, rfl, ?_, fun _ _ => trivial⟩
      obtain ⟨x, y⟩ := s
      by_cases hz : y = 0
      · subst hz
        simp -implicitDefEqProofs [stepG, turnO]
      · have e : modD (.int x) (.int y) = .ok (.int (x % y : Nat)) := by
          rw [mod_i _ _ (by omega), Int.fmod_eq_emod_of_nonneg _ (by omega)]
          simp
        have e2 : ((y : Int) == 0) = false := by simp [hz]
        simp -implicitDefEqProofs [stepG, turnO, hz, e, e2])
  rw [foldG' (n := intBits a + intBits b) (by simp) (by
    have h1 : a.natAbs < 2 ^ intBits a := intBits_le_iff.mp (Nat.le_refl _)
    have h2 : b.natAbs < 2 ^ intBits b := intBits_le_iff.mp (Nat.le_refl _)
    rw [Nat.pow_add]
    exact Nat.mul_lt_mul_of_lt_of_le h1 (Nat.le_of_lt h2) (Nat.two_pow_pos _))] at hl
  have hr : rng1 [.int ((intBits a : Int) + (intBits b : Int) + 4)] = .ok (rngL 0 (intBits a + intBits b + 4)) := by
    have z := rng1_ok (n := intBits a + intBits b + 4) (by omega)
    rw [← z]; simp
  unfold rngL at hr
  simp -implicitDefEqProofs [T__law_gcd, hA, hB, hr]
  simp [outO] at hl
  rw [hl]
  rfl
end LX
namespace LX
open PySem PySem.Spec PyProof.Rows L2 DL
open Builtin.Int (intBits)
theorem lawfr_ok {t l : Int} (h : l ≠ 0) (ht : intBits t ≤ 4000) (hl : intBits l ≤ 4000) : g__law_fraction [.int t, .int l] = .ok (.fr (frD t l)) := by
  rw [b__law_fraction]
  have e1 := gcd_ok ht hl (by decide)
  have e2 := @fdiv_b t (dv t l) 4000 (dv_ne h) (dv_bits h hl) (by decide)
  have e3 := @fdiv_b l (dv t l) 4000 (dv_ne h) (dv_bits h hl) (by decide)
  by_cases hz : l < 0
  · simp only [dv, gc, hz, if_true] at e2 e3
    simp -implicitDefEqProofs [T__law_fraction, e1, hz, e2, e3, frD, dv, gc]
  · simp only [dv, gc, hz, if_false] at e2 e3
    simp -implicitDefEqProofs [T__law_fraction, e1, hz, e2, e3, frD, dv, gc]
theorem lawfr_q {t l : Int} (h : l ≠ 0) (ht : intBits t ≤ 4000) (hl : intBits l ≤ 4000) : g__law_fraction [.int t, .int l] = .ok (.fr (qD (Rat.divInt t l))) := by
  rw [lawfr_ok h ht hl, frD_q h]
end LX
namespace LX
open PySem PySem.Spec PyProof.Rows L2 DL
open Builtin.Int (intBits)
theorem num_le {t l : Int} (l0 : 0 < l) : (Rat.divInt t l).num.natAbs ≤ t.natAbs ∧ ((Rat.divInt t l).den : Int) ≤ l := by
  have e := frD_q (t := t) (l := l) (by omega)
  have hg := gc_pos (t := t) (l := l) (by omega)
  have hd : dv t l = (gc t l : Int) := by unfold dv; rw [if_neg (by omega)]
  have d1 : ((gc t l : Nat) : Int) ∣ t := by unfold gc; exact Int.ofNat_dvd_left.mpr (Nat.gcd_dvd_left _ _)
  have d2 : ((gc t l : Nat) : Int) ∣ l := by unfold gc; exact Int.ofNat_dvd_left.mpr (Nat.gcd_dvd_right _ _)
  unfold frD qD at e
  simp only [PyData.tuple.injEq, List.cons.injEq, PyData.int.injEq, and_true] at e
  rw [hd] at e
  obtain ⟨e1, e2⟩ := e
  generalize gc t l = G at *
  obtain ⟨a, ha⟩ := d1
  obtain ⟨b, hb⟩ := d2
  rw [← e1, ← e2]
  constructor
  · rw [ha, Int.mul_fdiv_cancel_left _ (by omega), Int.natAbs_mul]
    exact Nat.le_mul_of_pos_left _ (by omega)
  · rw [hb, Int.mul_fdiv_cancel_left _ (by omega)]
    have hb0 : 0 < b := by
      rcases Int.lt_trichotomy b 0 with z | z | z
      · have := Int.mul_neg_of_pos_of_neg (show (0 : Int) < G by omega) z; omega
      · subst z; rw [Int.mul_zero] at hb; omega
      · exact z
    have := Int.mul_le_mul_of_nonneg_right (show (1 : Int) ≤ G by omega) (show 0 ≤ b by omega)
    omega
def okQ (q : Q) : Bool := okP (toP q)
theorem okQ_div {t l : Int} (l0 : 0 < l) (h1 : t.natAbs ≤ 1000000) (h2 : l ≤ 1000000) : okQ (some (Rat.divInt t l)) = true := by
  obtain ⟨a1, a2⟩ := num_le (t := t) l0
  show okF (Rat.divInt t l).num ((Rat.divInt t l).den : Int) = true
  generalize Rat.divInt t l = q at *
  have a3 := q.den_nz
  have a4 : Nat.gcd q.num.natAbs ((q.den : Int).natAbs) = 1 := by rw [Int.natAbs_natCast]; exact q.reduced
  unfold okF
  rw [decide_eq_true (by omega : q.num.natAbs ≤ 1000000), decide_eq_true (by omega : (q.den : Int) ≤ 1000000), decide_eq_true (by omega : 1 ≤ (q.den : Int)), decide_eq_true a4]
  rfl
theorem okQ_bt {q : Q} (h : okQ q = true) : Bt 24 q := by
  cases q with
  | none => trivial
  | some q => have := okF_bt h; rwa [qD_div] at this
end LX
namespace LX
open PySem PySem.Spec PyProof.Rows L2 DL
open Builtin.Int (intBits)
theorem one_div2 (t : Int) : PyData.tuple [.int t, .int 1] = qD (Rat.divInt t 1) := by
  rw [← frD_q (by decide)]
  unfold frD dv gc
  simp
theorem moment_ok (c : Int) : ∃ q : Q, g__law_moment [.int c] = .ok (.fr (mD q)) ∧ okQ q = true := by
  rw [b__law_moment]
  have hp : ∀ l ∈ ([8, 21, 6, 2000001, 1000000] : List Int), 0 < l ∧ l < 2 ^ 60 := by decide
  have e1 := @draws_ok c [8, 21, 6, 2000001, 1000000] hp (by decide)
  obtain ⟨hlen, hget⟩ := @drawL_ok c [8, 21, 6, 2000001, 1000000] (fun l m => (hp l m).1)
  generalize drawL c [8, 21, 6, 2000001, 1000000] = ds at *
  obtain ⟨x0, t0, rfl, l0⟩ := gl_len1 hlen
  obtain ⟨x1, t1, rfl, l1⟩ := gl_len1 l0
  obtain ⟨x2, t2, rfl, l2⟩ := gl_len1 l1
  obtain ⟨x3, t3, rfl, l3⟩ := gl_len1 l2
  obtain ⟨x4, t4, rfl, l4⟩ := gl_len1 l3
  have hds : t4 = [] := List.length_eq_zero_iff.mp l4
  subst hds
  have h0 := hget 0 (by decide)
  have h1 := hget 1 (by decide)
  have h2 := hget 2 (by decide)
  have h3 := hget 3 (by decide)
  have h4 := hget 4 (by decide)
  simp at h0 h1 h2 h3 h4
  simp -implicitDefEqProofs at e1
  have i2 : ixD (.list [.int x0, .int x1, .int x2, .int x3, .int x4]) (.int 2) = .ok (.int x2) := by rw [ix_l, atI_of (by decide) rfl]
  have i3 : ixD (.list [.int x0, .int x1, .int x2, .int x3, .int x4]) (.int 3) = .ok (.int x3) := by rw [ix_l, atI_of (by decide) rfl]
  have i4 : ixD (.list [.int x0, .int x1, .int x2, .int x3, .int x4]) (.int 4) = .ok (.int x4) := by rw [ix_l, atI_of (by decide) rfl]
  by_cases c0 : x0 < 2
  · refine ⟨none, ?_, rfl⟩
    simp -implicitDefEqProofs [T__law_moment, e1, c0, mD]
  have c0' : ¬ (x0 < 2) := c0
  by_cases c1 : x0 = 2
  · have b1 : intBits (x3 - 1000000) ≤ 24 := bits_of (by omega)
    have b3 : intBits (1 + x4) ≤ 24 := bits_of (by omega)
    have e2 := lawfr_q (show 1 + x4 ≠ 0 by omega) (Nat.le_trans b1 (by decide)) (Nat.le_trans b3 (by decide))
    refine ⟨some (Rat.divInt (x3 - 1000000) (1 + x4)), ?_, okQ_div (by omega) (by omega) (by omega)⟩
    have z1 : (x0 == 2) = true := by simp [c1]
    simp -implicitDefEqProofs [T__law_moment, e1, c0, z1, i3, i4, e2, mD]
  have z1 : (x0 == 2) = false := by simp [c1]
  by_cases c3 : x0 = 3
  · have b1 : intBits (x1 - 10) ≤ 24 := bits_of (by omega)
    have b3 : intBits (1 + x2) ≤ 24 := bits_of (by omega)
    have e2 := lawfr_q (show 1 + x2 ≠ 0 by omega) (Nat.le_trans b1 (by decide)) (Nat.le_trans b3 (by decide))
    refine ⟨some (Rat.divInt (x1 - 10) (1 + x2)), ?_, okQ_div (by omega) (by omega) (by omega)⟩
    have z3 : (x0 == 3) = true := by simp [c3]
    simp -implicitDefEqProofs [T__law_moment, e1, c0, z1, z3, i2, e2, mD]
  · have z3 : (x0 == 3) = false := by simp [c3]
    refine ⟨some (Rat.divInt (x1 - 10) 1), ?_, okQ_div (by decide) (by omega) (by decide)⟩
    simp -implicitDefEqProofs [T__law_moment, e1, c0, z1, z3, mD, ← one_div2]
end LX
namespace LX
open PySem PySem.Spec PyProof.Rows L2 DL
open Builtin.Int (intBits)
theorem desk_er {w : List (List PM)} (h : okW w = false) : g_Desk [pwD w] = .er ("BadWork" : Str) := by
  have e := checkg w
  rw [h] at e
  rw [b_Desk]
  simp -implicitDefEqProofs [T_Desk, e]
def eR (w s y g e : Option Sl) : En := [w, s, y, g, e]
noncomputable def RB : En → SR := (fnS [2, 3] (sqS (asS 3 (cB false))
  (sqS (tryS 4 sel_BadWork (ifS (t2 (vf 2) (cI 0) eqD)
  (exS (unO (cal (consA (vf 0) nilA) g_check_work)))
  (ifS (t2 (vf 2) (cI 1) eqD)
  (exS (unO (newE (consA (vf 0) nilA) g_Desk)))
  (exS (unO (cal (consA (tupR (consA (vf 0) (consA (unO (repR (lstR (consA (cS ("late" : Str)) nilA)) (cal (consA (vf 0) nilA) (one lenD)))) nilA))) nilA) g_check_mixed))))) (fun c a env => if c = ("BadWork" : Str) then (asS 3 (andV (isiS 4 a true) (andV (isiS 4 a true) (notV (isiS 4 a (false || false)))))) env else .no))
  (ifS (orT (notT (truR (vf 3))) (t2 (cal (consA (vf 0) nilA) (one reprD)) (vf 1) neD))
  (rtS (cB false))
  nxS))))
theorem refused_w {w : List (List PM)} (h : okW w = false) (sm : smW w) : g__law_refused [pwD w] = .ok (.fr (.bool true)) := by
  rw [b__law_refused]
  have ec := checkg w
  rw [h] at ec
  have ec : g_check_work [pwD w] = .er ("BadWork" : Str) := ec
  have ed := desk_er h
  have em := checkm w (List.replicate w.length ("late" : Str)) (fun s hs => by rw [(List.mem_replicate.mp hs).2]; exact late_ok)
  rw [okM_w h] at em
  have em : g_check_mixed [.tuple [pwD w, .list (List.replicate w.length (.str ("late" : Str)))]] = .er ("BadWork" : Str) := by
    rw [show PyData.tuple [pwD w, .list (List.replicate w.length (.str ("late" : Str)))] = mixD w (List.replicate w.length ("late" : Str)) from by
      unfold mixD sidesD; rw [List.map_replicate]]
    exact em
  have e2 : sel_BadWork "BadWork" = some true := by unfold sel_BadWork; decide
  have hl : lenD (pwD w) = .ok (.int (w.length : Nat)) := by unfold pwD; rw [len_l, List.length_map]
  have rl := @rep1 (.str ("late" : Str)) w.length (by have := sm.1; omega)
  have rp : reprD (pwD w) = .ok (.str (pwD w).shown) := repr_ok (sh_pwD sm) (by decide) (by decide)
  obtain ⟨W, hW⟩ : ∃ W, W = pwD w := ⟨_, rfl⟩
  obtain ⟨st, hst⟩ : ∃ st, st = (pwD w).shown := ⟨_, rfl⟩
  rw [← hst, ← hW] at rp
  rw [← hW] at ec ed em hl ⊢
  have turn : ∀ i : Nat, i < 3 → ∀ e3 e4, RB (eR (some (.v (.fr W))) (some (.v (.fr (.str st)))) (some (.v (.fr (.int (i : Nat))))) e3 e4) = .nx (eR (some (.v (.fr W))) (some (.v (.fr (.str st)))) none none none) := by
    intro i hi e3 e4
    have hT : ∀ e4, (ifS (t2 (vf 2) (cI 0) eqD)
  (exS (unO (cal (consA (vf 0) nilA) g_check_work)))
  (ifS (t2 (vf 2) (cI 1) eqD)
  (exS (unO (newE (consA (vf 0) nilA) g_Desk)))
  (exS (unO (cal (consA (tupR (consA (vf 0) (consA (unO (repR (lstR (consA (cS ("late" : Str)) nilA)) (cal (consA (vf 0) nilA) (one lenD)))) nilA))) nilA) g_check_mixed))))) (eR (some (.v (.fr W))) (some (.v (.fr (.str st)))) (some (.v (.fr (.int (i : Nat))))) (some (.v (.fr (.bool false)))) e4) = .er ("BadWork" : Str) (eR (some (.v (.fr W))) (some (.v (.fr (.str st)))) (some (.v (.fr (.int (i : Nat))))) (some (.v (.fr (.bool false)))) e4) := by
      intro e4
      rcases (by omega : i = 0 ∨ i = 1 ∨ i = 2) with rfl | rfl | rfl
      · simp -implicitDefEqProofs [eR, ec]
      · simp -implicitDefEqProofs [eR, ed]
      · simp -implicitDefEqProofs [eR, hl, rl, em]
    unfold RB
    refine fnS_of (e1 := eR (some (.v (.fr W))) (some (.v (.fr (.str st)))) (some (.v (.fr (.int (i : Nat))))) (some (.v (.fr (.bool true)))) none) ?_ rfl
    refine sq_of (e1 := eR (some (.v (.fr W))) (some (.v (.fr (.str st)))) (some (.v (.fr (.int (i : Nat))))) (some (.v (.fr (.bool false)))) e4) (by simp -implicitDefEqProofs [eR]) ?_
    refine sq_of (e1 := eR (some (.v (.fr W))) (some (.v (.fr (.str st)))) (some (.v (.fr (.int (i : Nat))))) (some (.v (.fr (.bool true)))) none) (by
      unfold tryS
      rw [hT]
      simp -implicitDefEqProofs only [e2]
      refine tryX_eq fun a => ?_
      simp -implicitDefEqProofs [eR, isiS, SR.un]) ?_
    simp -implicitDefEqProofs [eR, rp, ne_s]
  unfold T__law_refused
  refine endR_of (r := .rt (.fr (.bool true))) ?_ rfl
  refine sq_of (e1 := eR (some (.v (.fr W))) (some (.v (.fr (.str st)))) none none none) (by simp -implicitDefEqProofs [eR, rp]) ?_
  obtain ⟨ex, q1, q2⟩ := forF_rng (b := setN 2) (T := RB) (fun i env => env = eR (some (.v (.fr W))) (some (.v (.fr (.str st)))) none none none) 3 _ rfl (fun i env hi he => by
    subst he
    exact ⟨_, _, rfl, .inl (turn i hi _ _), rfl⟩)
  subst q2
  refine sq_of (e1 := eR (some (.v (.fr W))) (some (.v (.fr (.str st)))) none none none) (by
    rw [e_fgS, e_forS]
    have er : ∀ env : En, env = eR (some (.v (.fr W))) (some (.v (.fr (.str st)))) none none none → cal (consA (cI 3) nilA) rng1 env = .ok (rngL 0 3) := fun env he => by
      have := rng1_ok (n := 3) (by decide)
      simp -implicitDefEqProofs
      first | done | exact this
    erw [er _ rfl, R.st_ok]
    exact q1) ?_
  rfl
theorem repr_ws {w : List (List PM)} {ss : List Str} (h1 : smW w) (h2 : smS ss) : reprD (.list [pwD w, sidesD ss]) = .ok (.str (PyData.list [pwD w, sidesD ss]).shown) :=
  repr_ok (sh_list (n := 2) (B := 15187) (k := 3) (fun x hx => by
    rcases List.mem_cons.mp hx with z | z
    · rw [z]; exact sh_pwD h1
    · rw [List.mem_singleton.mp z]; exact (sh_sidesD h2).mono (by decide) (by decide)) (Nat.le_refl 2)) (by decide) (by decide)
theorem nosides_q {w : List (List PM)} {ss : List Str} (h : okM w ss = false) (sm : smW w) (hs : ∀ s ∈ ss, gdS s) (hl : ss.length ≤ 16) : g__law_no_sides [pwD w, sidesD ss] = .ok (.fr (.bool true)) := by
  rw [b__law_no_sides]
  have em := checkm w ss fun s hs' => (hs s hs').1
  rw [h] at em
  have em : g_check_mixed [.tuple [pwD w, sidesD ss]] = .er ("BadWork" : Str) := em
  have e2 : sel_BadWork "BadWork" = some true := by unfold sel_BadWork; decide
  have rp := repr_ws sm ⟨hl, fun s hs' => (hs s hs').2⟩
  obtain ⟨W, hW⟩ : ∃ W, W = pwD w := ⟨_, rfl⟩
  obtain ⟨Z, hZ⟩ : ∃ Z, Z = sidesD ss := ⟨_, rfl⟩
  rw [← hW, ← hZ] at em rp ⊢
  obtain ⟨st, hst⟩ : ∃ st, st = (PyData.list [W, Z]).shown := ⟨_, rfl⟩
  rw [← hst] at rp
  unfold T__law_no_sides
  refine endR_of (r := .rt (.fr (.bool true))) ?_ rfl
  refine sq_of (e1 := [some (.v (.fr W)), some (.v (.fr Z)), some (.v (.fr (.str st))), none]) (by simp -implicitDefEqProofs [rp]) ?_
  have e3 : (tryS 3 sel_BadWork (exS (unO (cal (consA (tupR (consA (vf 0) (consA (vf 1) nilA))) nilA) g_check_mixed))) (fun c a env => if c = ("BadWork" : Str) then (rtS (andV (isiS 3 a true) (b2 (cal (consA (unO (lstR (consA (vf 0) (consA (vf 1) nilA)))) nilA) (one reprD)) (vf 2) eqD))) env else .no)) [some (.v (.fr W)), some (.v (.fr Z)), some (.v (.fr (.str st))), none] = .rt (.fr (.bool true)) := by
    unfold tryS
    simp -implicitDefEqProofs [em, e2]
    refine tryX_eq fun a => ?_
    simp -implicitDefEqProofs [isiS, SR.un, rp, eq_s]
  rw [e_sqS, e3]; rfl
/-- fractions that can be shortened -/
def redL (far : Int) : List Int → List (Int × Int)
  | [] => []
  | p :: ps => ((far.fmod 900 + 1) * p, (far.fmod 7 + 1) * p) :: (-p, p * (far.fmod 11 + 1)) :: redL far ps
def prD (p : Int × Int) : D := pD (some p)
noncomputable def PB : En → SR := (fnS [2] (sqS (apS 1 (frR (tupR (consA (b2 (b2 (b2 (cal (consA (vf 0) nilA) (one intD)) (cI 900) modD) (cI 1) addD) (vf 2) mulD) (consA (b2 (b2 (b2 (cal (consA (vf 0) nilA) (one intD)) (cI 7) modD) (cI 1) addD) (vf 2) mulD) nilA)))))
  (apS 1 (frR (tupR (consA (negR (vf 2)) (consA (b2 (vf 2) (b2 (b2 (cal (consA (vf 0) nilA) (one intD)) (cI 11) modD) (cI 1) addD) mulD) nilA)))))))
theorem reducible_q (far : Int) : g__law_reducible [.int far] = .ok (.ow ((redL far [3, 5, 7, 11, 13, 101, 997]).map fun p => .fr (prD p))) := by
  rw [b__law_reducible]
  have m9 : modD (.int far) (.int 900) = .ok (.int (far.fmod 900)) := mod_i _ _ (by decide)
  have m7 : modD (.int far) (.int 7) = .ok (.int (far.fmod 7)) := mod_i _ _ (by decide)
  have m11 : modD (.int far) (.int 11) = .ok (.int (far.fmod 11)) := mod_i _ _ (by decide)
  have r9 := fm_lo (x := far) (b := 900) (by decide)
  have r7 := fm_lo (x := far) (b := 7) (by decide)
  have r11 := fm_lo (x := far) (b := 11) (by decide)
  have turn : ∀ (xs : List (Int × Int)) (p : Int) (e2 : Option Sl), xs.length ≤ 100 → p.natAbs < 2 ^ 20 → PB [some (.v (.fr (.int far))), some (.v (.ow (xs.map fun p => .fr (prD p)))), some (.v (.fr (.int p)))] = .nx [some (.v (.fr (.int far))), some (.v (.ow ((xs ++ [((far.fmod 900 + 1) * p, (far.fmod 7 + 1) * p), (-p, p * (far.fmod 11 + 1))]).map fun p => .fr (prD p)))), none] := by
    intro xs p _ hx hp
    have p1 : mulD (.int (far.fmod 900 + 1)) (.int p) = .ok (.int ((far.fmod 900 + 1) * p)) := mul_b (m := 20) (n := 20) (bits_of (by omega)) (bits_of hp) (by decide)
    have p2 : mulD (.int (far.fmod 7 + 1)) (.int p) = .ok (.int ((far.fmod 7 + 1) * p)) := mul_b (m := 20) (n := 20) (bits_of (by omega)) (bits_of hp) (by decide)
    have p3 : mulD (.int p) (.int (far.fmod 11 + 1)) = .ok (.int (p * (far.fmod 11 + 1))) := mul_b (m := 20) (n := 20) (bits_of hp) (bits_of (by omega)) (by decide)
    have h1 : xs.length < 1000000 := by omega
    have h2 : xs.length + 1 < 1000000 := by omega
    unfold PB
    simp -implicitDefEqProofs [apS_at, m9, m7, m11, p1, p2, p3, h1, h2, prD, pD]
  unfold T__law_reducible
  refine endR_of (r := .rt (.ow ((redL far [3, 5, 7, 11, 13, 101, 997]).map fun p => .fr (prD p)))) ?_ rfl
  refine sq_of (e1 := [some (.v (.fr (.int far))), some (.v (.ow (([] : List (Int × Int)).map fun p => .fr (prD p)))), none]) (by simp -implicitDefEqProofs) ?_
  refine sq_of (e1 := [some (.v (.fr (.int far))), some (.v (.ow ((redL far [3, 5, 7, 11, 13, 101, 997]).map fun p => .fr (prD p)))), none]) (by
    rw [e_fgS, e_forS]
    have es : seqR (unO (lstR (consA (cI 3) (consA (cI 5) (consA (cI 7) (consA (cI 11) (consA (cI 13) (consA (cI 101) (consA (cI 997) nilA))))))))) (fgE [some (.v (.fr (.int far))), some (.v (.ow (([] : List (Int × Int)).map fun p => .fr (prD p)))), none] [2]) = .ok ([3, 5, 7, 11, 13, 101, 997].map PyData.int) := rfl
    have fg : fgE [some (.v (.fr (.int far))), some (.v (.ow (([] : List (Int × Int)).map fun p => .fr (prD p)))), none] [2] = [some (.v (.fr (.int far))), some (.v (.ow (([] : List (Int × Int)).map fun p => .fr (prD p)))), none] := rfl
    rw [es, R.st_ok, fg]
    have go : ∀ (ps : List Int) (xs : List (Int × Int)), xs.length + 2 * ps.length ≤ 90 → (∀ p ∈ ps, p.natAbs < 2 ^ 20) → forF (setN 2) PB (ps.map PyData.int) [some (.v (.fr (.int far))), some (.v (.ow (xs.map fun p => .fr (prD p)))), none] = .nx [some (.v (.fr (.int far))), some (.v (.ow ((xs ++ redL far ps).map fun p => .fr (prD p)))), none] := by
      intro ps
      induction ps with
      | nil => intro xs _ _; rw [List.map_nil, forF, redL, List.append_nil]
      | cons p ps ih =>
        intro xs h1 h2
        rw [List.length_cons] at h1
        rw [List.map_cons, forF]
        have es : setN 2 (PyData.int p) [some (.v (.fr (.int far))), some (.v (.ow (xs.map fun p => .fr (prD p)))), none] = some [some (.v (.fr (.int far))), some (.v (.ow (xs.map fun p => .fr (prD p)))), some (.v (.fr (.int p)))] := rfl
        rw [es]
        dsimp only
        rw [turn xs p none (by omega) (h2 p List.mem_cons_self)]
        dsimp only
        rw [ih _ (by rw [List.length_append]; simp only [List.length_cons, List.length_nil]; omega) fun q hq => h2 q (List.mem_cons_of_mem _ hq), List.append_assoc]
        rfl
    exact go _ [] (by decide) (by decide)) ?_
  simp -implicitDefEqProofs
end LX
namespace LX
open PySem PySem.Spec PyProof.Rows L2 DL
open Builtin.Int (intBits)
theorem getP_row {w : List (List PM)} {a : Nat} (ha : a < w.length) : getP (wPS w) [a] = some ((w[a]).map fun p => S.fr (pD p)) := by
  unfold wPS getP
  simp [ha, getP]
theorem setP_row {w : List (List PM)} {a : Nat} {r : List PM} (ha : a < w.length) : setP (wPS w) [a] (r.map fun p => S.fr (pD p)) = wPS (w.set a r) := by
  unfold wPS setP
  congr 1
  apply List.ext_getElem?
  intro k
  rw [List.getElem?_modify]
  by_cases hk : a = k
  · subst hk
    simp [ha, setP, List.map_set]
  · simp [hk]
theorem rfX_w {i : Nat} {env : En} {w : List (List PM)} {g : En → DL.R D} {a : Nat} (e : env[i]? = some (some (.v (wPS w)))) (hg : g env = .ok (.int (a : Nat))) (ha : a < w.length) : rfX i (rfV i) g env = .ok [a] := by
  have e1 : rfV i env = .ok [] := by unfold rfV; rw [e]
  unfold rfX
  rw [e1, R.bind_ok, hg, R.bind_ok, e]
  show (match ixN (w.map fun r => S.ow (r.map fun p => .fr (pD p))).length (a : Int) with | some n => DL.R.ok ([] ++ [n]) | none => .no) = _
  rw [List.length_map, ixN_of (by omega) (by omega)]
  rfl
theorem appop_w {i : Nat} {env : En} {w : List (List PM)} {fp fq : En → DL.R (List Nat)} {a c : Nat} {r rc : List PM} {m : PM} (e : env[i]? = some (some (.v (wPS w)))) (hp : fp env = .ok [c]) (hq : fq env = .ok [a]) (hac : a ≠ c) (ha : a < w.length) (hc : c < w.length) (hr : w[a] = r ++ [m]) (hrc : w[c] = rc) (hl : rc.length < 1000000) :
    apPopS i fp fq env = .nx (env.set i (some (.v (wPS ((w.set a r).set c (rc ++ [m])))))) := by
  have hc' : c < (w.set a r).length := by rw [List.length_set]; exact hc
  have e1 : ((r ++ [m]).map fun p => S.fr (pD p)).getLast? = some (.fr (pD m)) := by rw [List.map_append]; simp
  have e2 : ((r ++ [m]).map fun p => S.fr (pD p)).dropLast = r.map fun p => S.fr (pD p) := by rw [List.map_append]; simp
  have e3 : (w.set a r)[c] = rc := by rw [List.getElem_set_ne hac]; exact hrc
  unfold apPopS
  rw [hp, R.st_ok, e]
  dsimp only
  rw [getP_row hc]
  dsimp only
  rw [hq, R.st_ok]
  unfold apPopR
  rw [getP_row ha, hr]
  dsimp only
  rw [e1]
  dsimp only
  rw [e2, setP_row ha, getP_row hc', e3]
  dsimp only
  rw [if_pos (by rw [List.length_map]; exact hl)]
  have e4 : (rc.map fun p => S.fr (pD p)) ++ [S.fr (pD m)] = (rc ++ [m]).map fun p => S.fr (pD p) := by rw [List.map_append]; rfl
  rw [e4, setP_row hc']
end LX
namespace LX
open PySem PySem.Spec PyProof.Rows L2 DL
open Builtin.Int (intBits)
theorem sIx_nat (n d k : Nat) : HT.sIx n d (some (k : Int)) = min k n := by
  unfold HT.sIx
  simp
  try omega
theorem cut_take {A : Type} (xs : List A) (k : Nat) : DL.cutD xs none (some (k : Int)) = xs.take k := by
  unfold DL.cutD
  rw [sIx_nat]
  show (xs.drop 0).take (min k xs.length - 0) = _
  rw [List.drop_zero, Nat.sub_zero]
  by_cases h : k ≤ xs.length
  · rw [Nat.min_eq_left h]
  · rw [Nat.min_eq_right (by omega), List.take_length, List.take_of_length_le (by omega)]
theorem cut_from {A : Type} (xs : List A) (k : Nat) : DL.cutD xs (some (k : Int)) none = xs.drop k := by
  unfold DL.cutD
  rw [sIx_nat]
  show (xs.drop (min k xs.length)).take (xs.length - min k xs.length) = _
  by_cases h : k ≤ xs.length
  · rw [Nat.min_eq_left h, List.take_of_length_le (by rw [List.length_drop]; omega)]
  · rw [Nat.min_eq_right (by omega), Nat.sub_self, List.take_zero, List.drop_of_length_le (by omega)]
section
variable {A : Type} {cd : A → D} {xs ys : List A} {f g : En → DL.R D} {env : En}
theorem uslc {lo hi : Option Int} {ds : List A} (h : DL.cutD xs lo hi = ds) : (slcD (.list (xs.map cd)) lo hi).bind (fun s => DL.R.ok s.toD) = .ok (.list (ds.map cd)) := by
  have e : DL.cutD (xs.map cd) lo hi = (DL.cutD xs lo hi).map cd := by
    unfold DL.cutD
    rw [List.length_map, List.map_take, List.map_drop]
  rw [slc_l, R.bind_ok, toD_ow, List.map_map, e, h, List.map_map]
  exact congrArg (fun x => DL.R.ok (PyData.list x)) (List.map_congr_left fun k _ => toD_fr _)
theorem sl_to {k : Nat} (hf : f env = .ok (.list (xs.map cd))) (hg : g env = .ok (.int (k : Nat))) : unO (slR f noneO (someO g) slcD) env = .ok (.list ((xs.take k).map cd)) := by
  rw [e_unO, e_slR, hf, R.bind_ok, e_noneO, R.bind_ok, e_someO, hg, R.bind_ok, opI_i, R.bind_ok]
  exact uslc (cut_take xs k)
theorem sl_from {k : Nat} (hf : f env = .ok (.list (xs.map cd))) (hg : g env = .ok (.int (k : Nat))) : unO (slR f (someO g) noneO slcD) env = .ok (.list ((xs.drop k).map cd)) := by
  rw [e_unO, e_slR, hf, R.bind_ok, e_someO, hg, R.bind_ok, opI_i, R.bind_ok, e_noneO, R.bind_ok]
  exact uslc (cut_from xs k)
theorem ad_ls (hf : f env = .ok (.list (xs.map cd))) (hg : g env = .ok (.list (ys.map cd))) (hl : xs.length + ys.length ≤ 1000000) : b2 f g addD env = .ok (.list ((xs ++ ys).map cd)) := by
  rw [e_b2, hf, R.bind_ok, hg, R.bind_ok, addl (by rw [List.length_map, List.length_map]; exact hl), List.map_append]
theorem ls_one {x : A} (hf : f env = .ok (cd x)) : unO (lstR (consA f nilA)) env = .ok (.list ([x].map cd)) := by
  rw [e_unO, e_lstR, e_consA, hf, R.bind_ok, e_nilA, R.bind_ok, R.bind_ok, if_pos (by simp), R.bind_ok]
  simp
theorem ls_nil : unO (lstR nilA) env = .ok (.list (([] : List A).map cd)) := by
  rw [e_unO, e_lstR, e_nilA, R.bind_ok, if_pos (by simp), R.bind_ok]
  simp
theorem ix_at {k : Nat} {x : A} (hf : f env = .ok (.list (xs.map cd))) (hg : g env = .ok (.int (k : Nat))) (h : xs[k]? = some x) : b2 f g ixD env = .ok (cd x) := by
  rw [e_b2, hf, R.bind_ok, hg, R.bind_ok]
  exact ix_list _ (by rw [List.getElem?_map, h]; rfl)
theorem rep_ls {x : A} {n : Nat} (hf : f env = .ok (cd x)) (hg : g env = .ok (.int (n : Nat))) (hn : n ≤ 1000000) : unO (repR (lstR (consA f nilA)) g) env = .ok (.list ((List.replicate n x).map cd)) := by
  rw [e_unO, e_repR, e_lstR, e_consA, hf, R.bind_ok, e_nilA, R.bind_ok, R.bind_ok, if_pos (by simp), R.bind_ok, hg, R.bind_ok]
  simp -implicitDefEqProofs only [List.map_cons, List.map_nil]
  rw [rep1 hn, R.bind_ok, toD_ow, List.map_replicate, List.map_replicate, toD_fr]
end
theorem owfr (ds : List D) : (S.ow (ds.map S.fr)).toD = .list ds := by
  rw [toD_ow, List.map_map]
  exact congrArg PyData.list ((List.map_congr_left (f := S.toD ∘ S.fr) (g := fun x => x) fun k _ => toD_fr k).trans (List.map_id' _))
theorem noT_frs (ds : List D) : noT (.ow (ds.map S.fr)) = true := by
  show noTs (ds.map S.fr) = true
  induction ds with
  | nil => rfl
  | cons q v ih => show (noT (.fr q) && noTs _) = true; rw [ih]; rfl
end LX
namespace LX
open PySem PySem.Spec PyProof.Rows L2 DL
open Builtin.Int (intBits)
theorem cell_ok (ns : List Int) (k : Nat) : g__law_cell [.list (ns.map .int), .int k] = .ok (.fr (.int (ns.getD k 0))) := by
  rw [b__law_cell]
  by_cases h : k < ns.length
  · have e : ixD (.list (ns.map .int)) (.int k) = .ok (.int ns[k]) := by
      rw [ix_l, atI_nat (a := .int ns[k]) (by simp [h])]
    simp -implicitDefEqProofs [T__law_cell, h, e]
  · simp [T__law_cell, h]
end LX
namespace LX
open PySem PySem.Spec PyProof.Rows L2 DL
open Builtin.Int (intBits)
noncomputable def LB1 : En → SR := (fnS [4] (apS 3 (frR (unO (compR [6] (cal (consA (vf 2) nilA) rng1) (setN 6) yesT (cal (consA (b2 (b2 (unO (cal (consA (vf 0) (consA (b2 (b2 (cI 1) (b2 (vf 4) (vf 2) mulD) addD) (vf 6) addD) nilA)) g__law_cell)) (b2 (cI 17) (vf 6) mulD) addD) (b2 (cI 5) (vf 4) mulD) addD) nilA) g__law_moment))))))
noncomputable def LA : En → SR := (fnS [8] (ifS (lnT 3 (t2 (unO (cal (consA (unO (cal (consA (vf 3) (consA (vf 4) (consA (vf 6) (consA (vf 8) nilA)))) g__law_with)) nilA) g_check_work)) cN isNotD))
  (rtS (cB false))
  nxS))
noncomputable def LBb : En → SR := (fnS [8] (ifS (lnT 3 (notT (truR (unO (cal (consA (unO (cal (consA (vf 3) (consA (vf 4) (consA (vf 6) (consA (vf 8) nilA)))) g__law_with)) nilA) g__law_refused)))))
  (rtS (cB false))
  nxS))
noncomputable def LC : En → SR := (fnS [12] (ifS (notT (truR (unO (cal (consA (vf 12) nilA) g__law_refused))))
  (rtS (cB false))
  nxS))
noncomputable def LW : En → SR := (fnS [15] (ifS (notT (truR (unO (cal (consA (vf 13) (consA (b2 (b2 (unO (slR (vf 14) noneO (someO (vf 4)) slcD)) (unO (lstR (consA (vf 15) nilA))) addD) (unO (slR (vf 14) (someO (b2 (vf 4) (cI 1) addD)) noneO slcD)) addD) nilA)) g__law_no_sides))))
  (rtS (cB false))
  nxS))
def eL (x0 x1 x2 x3 x4 x5 x6 x7 x8 x9 x10 x11 x12 x13 x14 x15 x16 x17 : Option Sl) : En := [x0, x1, x2, x3, x4, x5, x6, x7, x8, x9, x10, x11, x12, x13, x14, x15, x16, x17]
theorem orT_f {f g : En → DL.R Bool} {env : En} (hf : f env = .ok false) (hg : g env = .ok false) : orT f g env = .ok false := by
  rw [e_orT, hf]; exact hg
theorem if_f {t : En → DL.R Bool} {T U : En → SR} {env e1 : En} (h : t env = .ok false) (h2 : U env = .nx e1) : ifS t T U env = .nx e1 := by
  rw [e_ifS, h]; exact h2
theorem ln3 (t : En → DL.R Bool) (ds : List D) (x0 x1 x2 x4 x5 x6 x7 x8 x9 x10 x11 x12 x13 x14 x15 x16 x17 : Option Sl) : lnT 3 t (eL x0 x1 x2 (some (.v (.ow (ds.map S.fr)))) x4 x5 x6 x7 x8 x9 x10 x11 x12 x13 x14 x15 x16 x17) = t (eL x0 x1 x2 (some (.v (.fr (.list ds)))) x4 x5 x6 x7 x8 x9 x10 x11 x12 x13 x14 x15 x16 x17) := by
  rw [e_lnT (s := .ow (ds.map S.fr)) rfl (noT_frs ds), owfr]; rfl
theorem vq_at {i : Nat} {env : En} {ds : List D} (h : env[i]? = some (some (.v (.ow (ds.map S.fr))))) : vq i env = .ok (.list ds) := by
  unfold vq; rw [h]; dsimp only; rw [allF_map]
theorem okW_len {w : List (List PM)} {m : Nat} (h : ∀ r ∈ w, r.length = m) (hm : m ≠ w.length) : okW w = false := by
  cases w with
  | nil => rfl
  | cons r w => exact okW_row List.mem_cons_self (okR_len (by rw [h r List.mem_cons_self]; exact hm))
theorem okW_big {w : List (List PM)} (h : 12 < w.length) : okW w = false := by
  unfold okW; rw [decide_eq_false (show ¬ w.length ≤ 12 by omega), Bool.and_false, Bool.false_and]
theorem okW_set {w : List (List PM)} {a b : Nat} {m : PM} (h : okW w = true) (hm : okP m = true) (ha : a < w.length) : okW (w.set a ((w[a]).set b m)) = true := by
  unfold okW at h ⊢
  rw [Bool.and_eq_true] at h ⊢
  rw [List.length_set]
  refine ⟨h.1, ?_⟩
  have h2 := List.all_eq_true.mp h.2
  rw [List.all_eq_true]
  intro r hr
  rcases List.mem_or_eq_of_mem_set hr with z | z
  · exact h2 r z
  · rw [z]
    have h3 := h2 _ (List.getElem_mem ha)
    unfold okR at h3 ⊢
    rw [Bool.and_eq_true] at h3 ⊢
    rw [List.length_set]
    refine ⟨h3.1, ?_⟩
    have h4 := List.all_eq_true.mp h3.2
    rw [List.all_eq_true]
    intro p hp
    rcases List.mem_or_eq_of_mem_set hp with z | z
    · exact h4 p z
    · rw [z]; exact hm
theorem okF_gcd {t l k : Int} (hk : 1 < k) (h1 : k ∣ t) (h2 : k ∣ l) : okF t l = false := by
  have h : ¬ (Nat.gcd t.natAbs l.natAbs = 1) := fun z => by
    have := Nat.dvd_gcd (Int.natAbs_dvd_natAbs.mpr h1) (Int.natAbs_dvd_natAbs.mpr h2)
    rw [z] at this
    have := Nat.le_of_dvd (by decide) this
    omega
  unfold okF; rw [decide_eq_false h, Bool.and_false, Bool.and_false, Bool.and_false]
theorem okF_top {t l : Int} (h : 1000000 < t.natAbs) : okF t l = false := by
  unfold okF; rw [decide_eq_false (by omega), Bool.false_and]
theorem okF_big {t l : Int} (h : 1000000 < l) : okF t l = false := by
  unfold okF; rw [decide_eq_false (show ¬ l ≤ 1000000 by omega), Bool.false_and, Bool.and_false]
theorem okF_low {t l : Int} (h : l < 1) : okF t l = false := by
  unfold okF; rw [decide_eq_false (show ¬ 1 ≤ l by omega), Bool.false_and, Bool.and_false, Bool.and_false]
/-- faulty fractions -/
def FB (p : Int × Int) : Prop := okF p.1 p.2 = false ∧ intBits p.1 ≤ 24 ∧ intBits p.2 ≤ 24
theorem fb_red (far : Int) : ∀ ps : List Int, (∀ p ∈ ps, 1 < p ∧ p < 1000) → ∀ q ∈ redL far ps, FB q
  | [], _, q, hq => nomatch hq
  | p :: ps, h, q, hq => by
    have hp := h p List.mem_cons_self
    have r9 := fm_lo (x := far) (b := 900) (by decide)
    have r7 := fm_lo (x := far) (b := 7) (by decide)
    have r11 := fm_lo (x := far) (b := 11) (by decide)
    have mb : ∀ x y : Int, 0 ≤ x → x ≤ 1000 → 0 ≤ y → y < 1000 → (x * y).natAbs < 2 ^ 24 := fun x y a b c d => by
      have h1 : x.natAbs * y.natAbs ≤ 1000 * 1000 := Nat.mul_le_mul (by omega) (by omega)
      rw [Int.natAbs_mul]; omega
    rw [redL] at hq
    rcases List.mem_cons.mp hq with z | hq
    · rw [z]
      exact ⟨okF_gcd hp.1 (Int.dvd_mul_left ..) (Int.dvd_mul_left ..), bits_of (mb _ _ (by omega) (by omega) (by omega) (by omega)), bits_of (mb _ _ (by omega) (by omega) (by omega) (by omega))⟩
    rcases List.mem_cons.mp hq with z | hq
    · rw [z]
      exact ⟨okF_gcd hp.1 (Int.dvd_neg.mpr (Int.dvd_refl p)) (Int.dvd_mul_right ..), bits_of (by omega), bits_of (mb _ _ (by omega) (by omega) (by omega) (by omega))⟩
    · exact fb_red far ps (fun x hx => h x (List.mem_cons_of_mem _ hx)) q hq
def OKL : List PM := [some (1000000, 1), some (-1000000, 999999), some (0, 1), some (1, 1000000), none, some (-1, 1)]
def WR1 (far : Int) : List (Int × Int) := [(1000000 + far, 1), (-1000000 - far, 1), (1, 1000000 + far), (0, 2), (0, 0), (2, 2), (4, 6)]
def WR2 (far : Int) : List (Int × Int) := [(1, 0), (1, -1), (-far, -far), (0, -1), (far, -far), (far * 2, 4), (0, 3), (3, 3), (15, 60), (-far * 7, 7 * far)]
theorem fb_1 {far : Int} (h1 : 1 ≤ far) (h2 : far ≤ 1000) : ∀ q ∈ WR1 far, FB q := fun q hq => by
  unfold WR1 at hq
  simp only [List.mem_cons, List.not_mem_nil, or_false] at hq
  rcases hq with rfl | rfl | rfl | rfl | rfl | rfl | rfl
  · exact ⟨okF_top (by omega), bits_of (by omega), (show intBits (1 : Int) ≤ 24 by decide)⟩
  · exact ⟨okF_top (by omega), bits_of (by omega), (show intBits (1 : Int) ≤ 24 by decide)⟩
  · exact ⟨okF_big (by omega), (show intBits (1 : Int) ≤ 24 by decide), bits_of (by omega)⟩
  · exact ⟨by decide, by decide, by decide⟩
  · exact ⟨by decide, by decide, by decide⟩
  · exact ⟨by decide, by decide, by decide⟩
  · exact ⟨by decide, by decide, by decide⟩
theorem fb_2 {far : Int} (h1 : 1 ≤ far) (h2 : far ≤ 1000) : ∀ q ∈ WR2 far, FB q := fun q hq => by
  unfold WR2 at hq
  simp only [List.mem_cons, List.not_mem_nil, or_false] at hq
  rcases hq with rfl | rfl | rfl | rfl | rfl | rfl | rfl | rfl | rfl | rfl
  · exact ⟨by decide, by decide, by decide⟩
  · exact ⟨by decide, by decide, by decide⟩
  · exact ⟨okF_low (by omega), bits_of (by omega), bits_of (by omega)⟩
  · exact ⟨by decide, by decide, by decide⟩
  · exact ⟨okF_low (by omega), bits_of (by omega), bits_of (by omega)⟩
  · exact ⟨okF_gcd (k := 2) (by decide) (Int.dvd_mul_left ..) (show (2 : Int) ∣ 4 by decide), bits_of (by omega), (show intBits (4 : Int) ≤ 24 by decide)⟩
  · exact ⟨by decide, by decide, by decide⟩
  · exact ⟨by decide, by decide, by decide⟩
  · exact ⟨by decide, by decide, by decide⟩
  · exact ⟨okF_gcd (k := 7) (by decide) (Int.dvd_mul_left ..) (Int.dvd_mul_right ..), bits_of (by omega), bits_of (by omega)⟩
end LX
namespace LX
open PySem PySem.Spec PyProof.Rows L2 DL
open Builtin.Int (intBits)
theorem band1 (m : Nat) : Builtin.bitAnd (m : Int) 1 = ((m % 2 : Nat) : Int) := by
  show ((m &&& 1 : Nat) : Int) = _
  rw [Nat.and_one_is_mod]
theorem shr1 (m : Nat) : (m : Int) / 2 ^ (1 : Int).toNat = ((m / 2 : Nat) : Int) := by
  show (m : Int) / 2 ^ 1 = _
  omega
/-- a loop over a number that is halved -/
theorem half_while {t : En → DL.R Bool} {T : En → SR} {A : Type} (enc : A → Nat → En) (step : A → Nat → A) (I : A → Nat → Prop) (ht : ∀ a m, t (enc a m) = .ok (decide (0 < m)))
    (hs : ∀ a m, 0 < m → I a m → T (enc a m) = .nx (enc (step a m) (m / 2)) ∧ I (step a m) (m / 2)) (F : A → Nat → A) (h0 : ∀ a, F a 0 = a) (h1 : ∀ a m, 0 < m → F a m = F (step a m) (m / 2)) :
    ∀ (fuel m : Nat) (a : A), m < fuel → I a m → whileF t T fuel (enc a m) = .nx (enc (F a m) 0) ∧ I (F a m) 0
  | 0, m, a, h, _ => absurd h (Nat.not_lt_zero _)
  | fuel + 1, m, a, h, i => by
    unfold whileF
    rw [ht]
    by_cases hm : 0 < m
    · rw [decide_eq_true hm]
      obtain ⟨q1, q2⟩ := hs a m hm i
      rw [R.st_ok]
      dsimp only
      rw [q1]
      dsimp only
      rw [h1 a m hm]
      exact half_while enc step I ht hs F h0 h1 fuel (m / 2) (step a m) (by omega) q2
    · have e : m = 0 := by omega
      subst e
      rw [h0]
      exact ⟨rfl, i⟩
end LX
namespace LX
open PySem PySem.Spec PyProof.Rows L2 DL
open Builtin.Int (intBits)
def WORDS : List Str := [("Late" : Str), ("early " : Str), (" late" : Str), ("earl" : Str), ("lat" : Str), ("latee" : Str), ("" : Str), ("e" : Str), ("l" : Str), ("earlylate" : Str), ("early bird" : Str), ("LATE" : Str), ("none" : Str), ("latE" : Str)]
theorem gd_word : ∀ s ∈ WORDS, gdS s := by
  have h1 : ∀ s ∈ WORDS, PyData.strOk s = true := by decide +kernel
  have h2 : ∀ s ∈ WORDS, (PyData.str s).shown.length ≤ 40 := by decide +kernel
  exact fun s hs => ⟨h1 s hs, ⟨rfl, rfl, h2 s hs, Nat.le_refl _⟩⟩
theorem word_bad : ∀ s ∈ WORDS, okS s = false := by decide +kernel
theorem okM_all {w : List (List PM)} {ss : List Str} (h1 : okW w = true) (h2 : ss.length = w.length) (h3 : ss.all okS = true) (h4 : emptyR w = false) : okM w ss = true := by
  unfold okM; rw [h1, decide_eq_true h2, h3, h4]; rfl
theorem good1 (ns : List Int) (h : ns.length ≤ 63) : g_law [.list (ns.map .int)] = .ok (.fr (.bool true)) := by
  rw [b_law]
  obtain ⟨Sx, hSx⟩ : ∃ s, PyData.list (ns.map .int) = s := ⟨_, rfl⟩
  have c0 : g__law_cell [.list (ns.map .int), .int 0] = .ok (.fr (.int (ns.getD 0 0))) := cell_ok ns 0
  obtain ⟨x0, hx0⟩ : ∃ x : Int, x = ns.getD 0 0 := ⟨_, rfl⟩
  rw [← hx0, hSx] at c0
  rw [hSx]
  clear hx0
  have hp : ∀ l ∈ ([12, 12, 12, 1000] : List Int), 0 < l ∧ l < 2 ^ 60 := by decide
  have edr := @draws_ok x0 [12, 12, 12, 1000] hp (by decide)
  obtain ⟨hlen, hget⟩ := @drawL_ok x0 [12, 12, 12, 1000] (fun l m => (hp l m).1)
  generalize drawL x0 [12, 12, 12, 1000] = ds at *
  obtain ⟨d0, t0, rfl, l0⟩ := gl_len1 hlen
  obtain ⟨d1, t1, rfl, l1⟩ := gl_len1 l0
  obtain ⟨d2, t2, rfl, l2⟩ := gl_len1 l1
  obtain ⟨d3, t3, rfl, l3⟩ := gl_len1 l2
  have hds : t3 = [] := List.length_eq_zero_iff.mp l3
  subst hds
  have g0 := hget 0 (by decide)
  have g1 := hget 1 (by decide)
  have g2 := hget 2 (by decide)
  have g3 := hget 3 (by decide)
  simp at g0 g1 g2 g3
  simp -implicitDefEqProofs at edr
  clear hget hlen l0 l1 l2 l3 hp
  have i1 : ixD (.list [.int d0, .int d1, .int d2, .int d3]) (.int 1) = .ok (.int d1) := by rw [ix_l, atI_of (by decide) rfl]
  have i2 : ixD (.list [.int d0, .int d1, .int d2, .int d3]) (.int 2) = .ok (.int d2) := by rw [ix_l, atI_of (by decide) rfl]
  have i3 : ixD (.list [.int d0, .int d1, .int d2, .int d3]) (.int 3) = .ok (.int d3) := by rw [ix_l, atI_of (by decide) rfl]
  obtain ⟨n, hn⟩ : ∃ n : Nat, 1 + d0 = (n : Int) := ⟨(1 + d0).toNat, by omega⟩
  have n1 : 1 ≤ n := by omega
  have n12 : n ≤ 12 := by omega
  obtain ⟨a, hA⟩ : ∃ a : Nat, d1.fmod n = (a : Int) := ⟨(d1.fmod n).toNat, by have := fm_lo (x := d1) (b := n) (by omega); omega⟩
  have ha12 : a < n := by have := fm_lo (x := d1) (b := n) (by omega); omega
  obtain ⟨b, hB⟩ : ∃ b : Nat, d2.fmod n = (b : Int) := ⟨(d2.fmod n).toNat, by have := fm_lo (x := d2) (b := n) (by omega); omega⟩
  have hb12 : b < n := by have := fm_lo (x := d2) (b := n) (by omega); omega
  have ma : modD (.int d1) (.int (n : Nat)) = .ok (.int (a : Nat)) := by rw [mod_i _ _ (by omega), hA]
  have mb : modD (.int d2) (.int (n : Nat)) = .ok (.int (b : Nat)) := by rw [mod_i _ _ (by omega), hB]
  obtain ⟨far, hfar⟩ : ∃ far : Int, 1 + d3 = far := ⟨_, rfl⟩
  have f1 : 1 ≤ far := by omega
  have f2 : far ≤ 1000 := by omega
  obtain ⟨farN, hfarN⟩ : ∃ m : Nat, far = (m : Int) := ⟨far.toNat, by omega⟩
  obtain ⟨fm, hfm⟩ : ∃ fm : Int → Q, ∀ x, g__law_moment [.int x] = .ok (.fr (mD (fm x))) ∧ okQ (fm x) = true := ⟨fun x => (moment_ok x).choose, fun x => (moment_ok x).choose_spec⟩
  obtain ⟨f, hf⟩ : ∃ f : Nat → Nat → Q, ∀ i j, f i j = fm (ns.getD (1 + i * n + j) 0 + 17 * (j : Int) + 5 * (i : Int)) := ⟨_, fun _ _ => rfl⟩
  obtain ⟨R0, hR0⟩ : ∃ R0 : Nat → List PM, ∀ k, R0 k = (List.range n).map fun j => toP (f k j) := ⟨_, fun _ => rfl⟩
  have R0_len : ∀ k, (R0 k).length = n := fun k => by rw [hR0, List.length_map, List.length_range]
  have R0_ok : ∀ k, ∀ p ∈ R0 k, okP p = true := fun k p hp => by
    rw [hR0] at hp
    obtain ⟨j, _, rfl⟩ := List.mem_map.mp hp
    rw [hf]; exact (hfm _).2
  have R0_sm : ∀ k, ∀ p ∈ R0 k, smP p := fun k p hp => by
    rw [hR0] at hp
    obtain ⟨j, _, rfl⟩ := List.mem_map.mp hp
    rw [hf]; exact smP_toP (okQ_bt (hfm _).2)
  obtain ⟨W, hWn⟩ : ∃ W, PW n R0 = W := ⟨_, rfl⟩
  have hWl : W.length = n := by rw [← hWn, PW_len]
  have haW : a < W.length := by rw [hWl]; exact ha12
  have hWg : ∀ k (hk : k < W.length), W[k] = R0 k := fun k hk => by subst hWn; exact PW_get hk
  have hWa : W[a]? = some (R0 a) := by rw [List.getElem?_eq_getElem haW, hWg]
  have hW0 : W[0]? = some (R0 0) := by rw [List.getElem?_eq_getElem (by omega), hWg]
  have hWm : ∀ r ∈ W, ∃ k, k < n ∧ r = R0 k := fun r hr => by
    rw [← hWn] at hr
    obtain ⟨k, hk, rfl⟩ := List.mem_map.mp hr
    exact ⟨k, List.mem_range.mp hk, rfl⟩
  have hWmap : (DL.R.ok (PyData.list (W.map rD)) : DL.R D) = .ok (.list ((List.range n).map fun k => rD (R0 k))) := by
    rw [← hWn]; unfold PW; rw [List.map_map]; rfl
  have okw : okW W = true := by
    unfold okW
    rw [hWl, decide_eq_true n1, decide_eq_true n12, Bool.true_and, Bool.true_and, List.all_eq_true]
    intro r hr
    obtain ⟨k, hk, rfl⟩ := hWm r hr
    unfold okR
    rw [decide_eq_true (R0_len k), Bool.true_and, List.all_eq_true]
    exact R0_ok k
  have smr : ∀ k, (R0 k).length ≤ 16 ∧ ∀ p ∈ R0 k, smP p := fun k => ⟨by rw [R0_len]; omega, R0_sm k⟩
  have smw : smW W := ⟨by omega, fun r hr => by obtain ⟨k, _, rfl⟩ := hWm r hr; exact smr k⟩
  obtain ⟨w, hw⟩ : ∃ w, PyData.list (W.map rD) = w := ⟨_, rfl⟩
  have hw' : pwD W = w := hw
  have ckw0 := checkg W
  rw [okw] at ckw0
  have ckw : g_check_work [.list (W.map rD)] = .ok (.fr .none) := ckw0
  obtain ⟨kp, hkp⟩ : ∃ kp, kp = (pwD W).shown := ⟨_, rfl⟩
  have rpw : reprD (.list (W.map rD)) = .ok (.str kp) := by rw [hkp]; exact repr_ok (sh_pwD smw) (by decide) (by decide)
  have hwith : ∀ m : PM, g__law_with [w, .int (a : Nat), .int (b : Nat), pD m] = .ok (wPS (W.set a ((W[a]'haW).set b m))) := fun m => by
    rw [← hw']; exact with_q (by omega) haW (by rw [hWg, R0_len]; exact hb12)
  have ckset : ∀ m : PM, okP m = true → g_check_work [pwD (W.set a ((W[a]'haW).set b m))] = .ok (.fr .none) := fun m hm => by
    have := checkg (W.set a ((W[a]'haW).set b m))
    rw [okW_set okw hm haW] at this; exact this
  have okl : ∀ m ∈ OKL, okP m = true := by decide +kernel
  have rfset : ∀ p : Int × Int, FB p → g__law_refused [pwD (W.set a ((W[a]'haW).set b (some p)))] = .ok (.fr (.bool true)) := fun p hp => by
    refine refused_w (okW_row (r := (W[a]'haW).set b (some p)) (List.mem_of_getElem? (List.getElem?_set_self haW)) (okR_p (p := some p) (List.mem_of_getElem? (List.getElem?_set_self (by rw [hWg, R0_len]; exact hb12))) hp.1)) ⟨by rw [List.length_set]; omega, fun r hr => ?_⟩
    rcases List.mem_or_eq_of_mem_set hr with z | z
    · exact smw.2 r z
    · rw [z]
      refine ⟨by rw [List.length_set, hWg, R0_len]; omega, fun q hq => ?_⟩
      rcases List.mem_or_eq_of_mem_set hq with z | z
      · rw [hWg] at z; exact R0_sm a q z
      · rw [z]; exact fun t l e => by cases e; exact hp.2
  obtain ⟨WALL, hWALL⟩ : ∃ WALL, (WR1 far ++ WR2 far) ++ redL far [3, 5, 7, 11, 13, 101, 997] = WALL := ⟨_, rfl⟩
  have hfb : ∀ p ∈ WALL, FB p := fun p hp => by
    rw [← hWALL] at hp
    rcases List.mem_append.mp hp with z | z
    · rcases List.mem_append.mp z with z | z
      · exact fb_1 f1 f2 p z
      · exact fb_2 f1 f2 p z
    · exact fb_red far _ (by decide) p z
  have mf2 : mulD (.int far) (.int 2) = .ok (.int (far * 2)) := mul_b (m := 12) (n := 12) (bits_of (by omega)) (by decide) (by decide)
  have mf7 : mulD (.int (-far)) (.int 7) = .ok (.int (-far * 7)) := mul_b (m := 12) (n := 12) (bits_of (by omega)) (by decide) (by decide)
  have m7f : mulD (.int 7) (.int far) = .ok (.int (7 * far)) := mul_b (m := 12) (n := 12) (by decide) (bits_of (by omega)) (by decide)
  have hrow : ∀ i, i < n → LB1 (eL (some (.v (.fr Sx))) (some (.v (.fr (.list [.int d0, .int d1, .int d2, .int d3])))) (some (.v (.fr (.int (n : Nat))))) (some (.v (.ow (((PW i R0).map rD).map S.fr)))) (some (.v (.fr (.int (i : Nat))))) none none none none none none none none none none none none none) = .nx (eL (some (.v (.fr Sx))) (some (.v (.fr (.list [.int d0, .int d1, .int d2, .int d3])))) (some (.v (.fr (.int (n : Nat))))) (some (.v (.ow (((PW (i + 1) R0).map rD).map S.fr)))) none none none none none none none none none none none none none none) := fun i hi => by
    have hc : ∀ env : En, env = (eL (some (.v (.fr Sx))) (some (.v (.fr (.list [.int d0, .int d1, .int d2, .int d3])))) (some (.v (.fr (.int (n : Nat))))) (some (.v (.ow (((PW i R0).map rD).map S.fr)))) (some (.v (.fr (.int (i : Nat))))) none none none none none none none none none none none none none) → compR [6] (cal (consA (vf 2) nilA) rng1) (setN 6) yesT (cal (consA (b2 (b2 (unO (cal (consA (vf 0) (consA (b2 (b2 (cI 1) (b2 (vf 4) (vf 2) mulD) addD) (vf 6) addD) nilA)) g__law_cell)) (b2 (cI 17) (vf 6) mulD) addD) (b2 (cI 5) (vf 4) mulD) addD) nilA) g__law_moment) env = .ok (.ow ((List.range n).map fun j : Nat => .fr (pD (toP (f i j))))) := fun env he => by
      subst he
      refine comp_rng (n := n) (by simp -implicitDefEqProofs [eL]) (by omega) fun j hj => ?_
      have ce := cell_ok ns (1 + i * n + j)
      rw [hSx] at ce
      have ce' : g__law_cell [Sx, .int (1 + (i : Int) * n + j)] = .ok (.fr (.int (ns.getD (1 + i * n + j) 0))) := by
        rw [← ce]; congr 4
      have e1 : mulD (.int (i : Nat)) (.int (n : Nat)) = .ok (.int ((i : Int) * n)) := mul_b (m := 8) (n := 8) (bits_of (by omega)) (bits_of (by omega)) (by decide)
      have e2 : mulD (.int 17) (.int (j : Nat)) = .ok (.int (17 * (j : Int))) := mul_b (m := 8) (n := 8) (by decide) (bits_of (by omega)) (by decide)
      have e3 : mulD (.int 5) (.int (i : Nat)) = .ok (.int (5 * (i : Int))) := mul_b (m := 8) (n := 8) (by decide) (bits_of (by omega)) (by decide)
      have e4 := (hfm (ns.getD (1 + i * n + j) 0 + 17 * (j : Int) + 5 * (i : Int))).1
      rw [← hf] at e4
      obtain ⟨cv, hcv⟩ : ∃ cv, ns.getD (1 + i * n + j) 0 = cv := ⟨_, rfl⟩
      rw [hcv] at ce' e4
      rw [pD_toP]
      simp -implicitDefEqProofs [eL, e1, e2, e3, ce', e4]
    unfold LB1
    refine fnS_of (e1 := (eL (some (.v (.fr Sx))) (some (.v (.fr (.list [.int d0, .int d1, .int d2, .int d3])))) (some (.v (.fr (.int (n : Nat))))) (some (.v (.ow (((PW (i + 1) R0).map rD).map S.fr)))) (some (.v (.fr (.int (i : Nat))))) none none none none none none none none none none none none none)) ?_ rfl
    rw [apS_at rfl, e_frR, e_unO, hc _ rfl, R.bind_ok, R.bind_ok, R.st_ok, if_pos (by rw [List.length_map, List.length_map, PW_len]; omega)]
    have e5 : (S.ow ((List.range n).map fun j : Nat => .fr (pD (toP (f i j))))).toD = rD (R0 i) := by
      rw [hR0]; unfold rD
      rw [toD_ow, List.map_map, List.map_map]
      exact congrArg PyData.list (List.map_congr_left fun k _ => toD_fr _)
    rw [e5]
    have e6 : PW (i + 1) R0 = PW i R0 ++ [R0 i] := by unfold PW; rw [List.range_succ, List.map_append]; rfl
    rw [e6, List.map_append, List.map_append]
    rfl
  have tk : (W.take a).length = a := by rw [List.length_take]; omega
  have dk : (W.drop (a + 1)).length = n - (a + 1) := by rw [List.length_drop, hWl]
  have hl1 : (W.take a).length + (W.drop (a + 1)).length ≤ 1000000 := by omega
  have hl2 : (W.take a).length + 1 ≤ 1000000 := by omega
  have hl3 : ∀ r : List PM, (W.take a ++ [r]).length + (W.drop (a + 1)).length ≤ 1000000 := fun r => by rw [List.length_append, tk]; simp; omega
  obtain ⟨q, hqq⟩ : ∃ q : Nat, 13 + far.fmod 3 = (q : Int) := ⟨(13 + far.fmod 3).toNat, by have := fm_lo (x := far) (b := 3) (by decide); omega⟩
  have q13 : 13 ≤ q ∧ q ≤ 15 := by have := fm_lo (x := far) (b := 3) (by decide); omega
  have mq : modD (.int far) (.int 3) = .ok (.int (far.fmod 3)) := mod_i _ _ (by decide)
  obtain ⟨BAD1, hBAD1⟩ : ∃ B : List (List (List PM)), B = [([] : List (List PM)), (W ++ [R0 0]), (W.take a ++ W.drop (a + 1)), (PW n fun k => R0 k ++ [none]), ((W.take a ++ [R0 a ++ [none]]) ++ W.drop (a + 1)), ((W.take a ++ [(R0 a).drop 1]) ++ W.drop (a + 1))] := ⟨_, rfl⟩
  obtain ⟨BAD2, hBAD2⟩ : ∃ B : List (List (List PM)), B = [(List.replicate 13 (List.replicate 13 (none : PM))), (List.replicate q (List.replicate q (none : PM))), [([] : List PM)], ((W.take a ++ [([] : List PM)]) ++ W.drop (a + 1))] := ⟨_, rfl⟩
  have hB1 : BAD1.length = 6 := by rw [hBAD1]; rfl
  have hB2 : BAD2.length = 4 := by rw [hBAD2]; rfl
  have mt : ∀ r ∈ W.take a, ∃ k, r = R0 k := fun r hr => by obtain ⟨k, _, z⟩ := hWm r (List.mem_of_mem_take hr); exact ⟨k, z⟩
  have md : ∀ r ∈ W.drop (a + 1), ∃ k, r = R0 k := fun r hr => by obtain ⟨k, _, z⟩ := hWm r (List.mem_of_mem_drop hr); exact ⟨k, z⟩
  have smn : smP none := fun t l e => nomatch e
  have sm3 : ∀ r : List PM, (r.length ≤ 16 ∧ ∀ p ∈ r, smP p) → smW ((W.take a ++ [r]) ++ W.drop (a + 1)) := fun r hr => ⟨by rw [List.length_append, List.length_append, tk, dk]; simp; omega, fun s hs => by
    rcases List.mem_append.mp hs with z | z
    · rcases List.mem_append.mp z with z | z
      · obtain ⟨k, rfl⟩ := mt s z; exact smr k
      · rw [List.mem_singleton.mp z]; exact hr
    · obtain ⟨k, rfl⟩ := md s z; exact smr k⟩
  have rf3 : ∀ r : List PM, (r.length ≤ 16 ∧ ∀ p ∈ r, smP p) → r.length ≠ n → g__law_refused [pwD ((W.take a ++ [r]) ++ W.drop (a + 1))] = .ok (.fr (.bool true)) := fun r hr hne =>
    refused_w (okW_row (r := r) (List.mem_append.mpr (.inl (List.mem_append.mpr (.inr List.mem_cons_self)))) (okR_len (by rw [List.length_append, List.length_append, tk, dk]; simp; omega))) (sm3 r hr)
  have rfrep : ∀ q : Nat, 13 ≤ q → q ≤ 16 → g__law_refused [pwD (List.replicate q (List.replicate q (none : PM)))] = .ok (.fr (.bool true)) := fun q h1 h2 =>
    refused_w (okW_big (by rw [List.length_replicate]; omega)) ⟨by rw [List.length_replicate]; exact h2, fun r hr => by
      rw [(List.mem_replicate.mp hr).2]
      exact ⟨by rw [List.length_replicate]; exact h2, fun p hp => by rw [(List.mem_replicate.mp hp).2]; exact smn⟩⟩
  have rf1 : ∀ x ∈ BAD1, g__law_refused [pwD x] = .ok (.fr (.bool true)) := fun x hx => by
    rw [hBAD1] at hx
    simp only [List.mem_cons, List.not_mem_nil, or_false] at hx
    rcases hx with rfl | rfl | rfl | rfl | rfl | rfl
    · exact refused_w rfl ⟨by decide, fun r hr => nomatch hr⟩
    · refine refused_w (okW_len (m := n) (fun r hr => ?_) (by rw [List.length_append, hWl]; simp)) ⟨by rw [List.length_append, hWl]; simp; omega, fun r hr => ?_⟩
      · rcases List.mem_append.mp hr with z | z
        · obtain ⟨k, _, rfl⟩ := hWm r z; exact R0_len k
        · rw [List.mem_singleton.mp z]; exact R0_len 0
      · rcases List.mem_append.mp hr with z | z
        · exact smw.2 r z
        · rw [List.mem_singleton.mp z]; exact smr 0
    · refine refused_w (okW_len (m := n) (fun r hr => ?_) (by rw [List.length_append, tk, dk]; omega)) ⟨by rw [List.length_append, tk, dk]; omega, fun r hr => ?_⟩
      · rcases List.mem_append.mp hr with z | z
        · obtain ⟨k, rfl⟩ := mt r z; exact R0_len k
        · obtain ⟨k, rfl⟩ := md r z; exact R0_len k
      · rcases List.mem_append.mp hr with z | z
        · obtain ⟨k, rfl⟩ := mt r z; exact smr k
        · obtain ⟨k, rfl⟩ := md r z; exact smr k
    · refine refused_w (okW_len (m := n + 1) (fun r hr => ?_) (by rw [PW_len]; omega)) (smW_PW (by omega) fun k _ => ⟨by rw [List.length_append, R0_len]; simp; omega, fun p hp => ?_⟩)
      · obtain ⟨k, _, rfl⟩ := List.mem_map.mp hr
        rw [List.length_append, R0_len]; rfl
      · rcases List.mem_append.mp hp with z | z
        · exact R0_sm k p z
        · rw [List.mem_singleton.mp z]; exact smn
    · refine rf3 _ ⟨by rw [List.length_append, R0_len]; simp; omega, fun p hp => ?_⟩ (by rw [List.length_append, R0_len]; simp)
      rcases List.mem_append.mp hp with z | z
      · exact R0_sm a p z
      · rw [List.mem_singleton.mp z]; exact smn
    · exact rf3 _ ⟨by rw [List.length_drop, R0_len]; omega, fun p hp => R0_sm a p (List.mem_of_mem_drop hp)⟩ (by rw [List.length_drop, R0_len]; omega)
  have rf2 : ∀ x ∈ BAD2, g__law_refused [pwD x] = .ok (.fr (.bool true)) := fun x hx => by
    rw [hBAD2] at hx
    simp only [List.mem_cons, List.not_mem_nil, or_false] at hx
    rcases hx with rfl | rfl | rfl | rfl
    · exact rfrep 13 (by decide) (by decide)
    · exact rfrep q q13.1 (by omega)
    · exact refused_w rfl ⟨by decide, fun r hr => by rw [List.mem_singleton.mp hr]; exact ⟨by decide, fun p hp => nomatch hp⟩⟩
    · exact rf3 [] ⟨by decide, fun p hp => nomatch hp⟩ (by simp; omega)
  have hcc : 1 < n → ∃ c : Nat, modD (.int ((a : Int) + 1)) (.int (n : Nat)) = .ok (.int (c : Nat)) ∧ c < n ∧ a ≠ c := fun h1 => by
    have hm : ((a : Int) + 1).fmod n = (((a + 1) % n : Nat) : Int) := by
      rw [Int.fmod_eq_emod_of_nonneg _ (by omega)]; push_cast; rfl
    refine ⟨(a + 1) % n, by rw [mod_i _ _ (by omega), hm], Nat.mod_lt _ (by omega), ?_⟩
    by_cases z : a + 1 < n
    · rw [Nat.mod_eq_of_lt z]; omega
    · rw [show a + 1 = n by omega, Nat.mod_self]; omega
  obtain ⟨BAD3, hB3, hB30, rfx⟩ : ∃ B : List (List (List PM)), (1 < n → ∀ (c : Nat) (r : List PM) (m : PM), modD (.int ((a : Int) + 1)) (.int (n : Nat)) = .ok (.int (c : Nat)) → R0 a = r ++ [m] → B = [(W.set a r).set c (R0 c ++ [m])]) ∧ (¬ 1 < n → B = []) ∧ ∀ x ∈ B, g__law_refused [pwD x] = .ok (.fr (.bool true)) := by
    by_cases h1 : 1 < n
    · obtain ⟨c, hc, hc12, hca⟩ := hcc h1
      obtain ⟨r, m, hrm⟩ : ∃ r m, R0 a = r ++ [m] := ⟨(R0 a).dropLast, (R0 a).getLast (fun z => by have := R0_len a; rw [z] at this; simp at this; omega), (List.dropLast_concat_getLast _).symm⟩
      have hr1 : r.length + 1 = n := by have := R0_len a; rw [hrm, List.length_append] at this; simpa using this
      refine ⟨[(W.set a r).set c (R0 c ++ [m])], fun _ c' r' m' hc' hrm' => ?_, fun z => absurd h1 z, fun x hx => ?_⟩
      · rw [hc] at hc'
        have e1 : c = c' := by simp only [DL.R.ok.injEq, PyData.int.injEq] at hc'; omega
        rw [hrm] at hrm'
        obtain ⟨e2, e3⟩ := List.append_inj' hrm' rfl
        simp only [List.cons.injEq, and_true] at e3
        subst e1 e2 e3
        rfl
      · rw [List.mem_singleton.mp hx]
        have hra : ∀ p ∈ r, smP p := fun p hp => R0_sm a p (by rw [hrm]; exact List.mem_append_left _ hp)
        have hmm : smP m := R0_sm a m (by rw [hrm]; exact List.mem_append_right _ List.mem_cons_self)
        refine refused_w (okW_row (r := r) ?_ (okR_len (by rw [List.length_set, List.length_set, hWl]; omega))) ⟨by rw [List.length_set, List.length_set]; omega, fun s hs => ?_⟩
        · refine List.mem_of_getElem? (i := a) ?_
          rw [List.getElem?_set_ne (fun z => hca z.symm), List.getElem?_set_self haW]
        · rcases List.mem_or_eq_of_mem_set hs with z | z
          · rcases List.mem_or_eq_of_mem_set z with z | z
            · exact smw.2 s z
            · rw [z]; exact ⟨by omega, hra⟩
          · rw [z]
            refine ⟨by rw [List.length_append, R0_len]; simp; omega, fun p hp => ?_⟩
            rcases List.mem_append.mp hp with z | z
            · exact R0_sm c p z
            · rw [List.mem_singleton.mp z]; exact hmm
    · exact ⟨[], fun z => absurd z h1, fun _ => rfl, fun x hx => nomatch hx⟩
  have rfbad : ∀ x ∈ BAD1 ++ BAD2 ++ BAD3, g__law_refused [pwD x] = .ok (.fr (.bool true)) := fun x hx => by
    rcases List.mem_append.mp hx with z | z
    · rcases List.mem_append.mp z with z | z
      · exact rf1 x z
      · exact rf2 x z
    · exact rfx x z
  obtain ⟨FU, hFU⟩ : ∃ FU : List (List PM), FU = PW n fun i => (List.range n).map fun j : Nat => some ((i : Int) - j, 1) := ⟨_, rfl⟩
  have FU_len : FU.length = n := by rw [hFU, PW_len]
  have FU_row : ∀ r ∈ FU, r.length = n ∧ ∀ p ∈ r, okP p = true ∧ smP p ∧ p ≠ none := fun r hr => by
    rw [hFU] at hr
    obtain ⟨i, hi, rfl⟩ := List.mem_map.mp hr
    refine ⟨by rw [List.length_map, List.length_range], fun p hp => ?_⟩
    obtain ⟨j, hj, rfl⟩ := List.mem_map.mp hp
    have hi := List.mem_range.mp hi
    have hj := List.mem_range.mp hj
    refine ⟨?_, fun t l e => by cases e; exact ⟨bits_of (by omega), by decide⟩, fun z => nomatch z⟩
    show okF ((i : Int) - j) 1 = true
    unfold okF
    rw [decide_eq_true (show ((i : Int) - j).natAbs ≤ 1000000 by omega), decide_eq_true (show Nat.gcd ((i : Int) - j).natAbs (1 : Int).natAbs = 1 from Nat.gcd_one_right _)]
    rfl
  have okfu : okW FU = true := by
    unfold okW
    rw [FU_len, decide_eq_true n1, decide_eq_true n12, Bool.true_and, Bool.true_and, List.all_eq_true]
    intro r hr
    obtain ⟨h1, h2⟩ := FU_row r hr
    unfold okR
    rw [decide_eq_true h1, Bool.true_and, List.all_eq_true]
    exact fun p hp => (h2 p hp).1
  have efu : emptyR FU = false := by
    unfold emptyR
    rw [List.any_eq_false]
    intro r hr hc
    obtain ⟨h1, h2⟩ := FU_row r hr
    cases r with
    | nil => simp at h1; omega
    | cons p r =>
      have := List.all_eq_true.mp hc p List.mem_cons_self
      cases p with
      | none => exact (h2 none List.mem_cons_self).2.2 rfl
      | some p => cases this
  have smfu : smW FU := ⟨by omega, fun r hr => ⟨by rw [(FU_row r hr).1]; omega, fun p hp => ((FU_row r hr).2 p hp).2.1⟩⟩
  obtain ⟨sf, hsf⟩ : ∃ sf : Nat → Bool, ∀ k : Nat, ixD (.list [.str ("late" : Str), .str ("early" : Str)]) (.int ((farN / 2 ^ k % 2 : Nat) : Int)) = .ok (.str (sideS (sf k))) := by
    have : ∀ k : Nat, ∃ b : Bool, ixD (.list [.str ("late" : Str), .str ("early" : Str)]) (.int ((farN / 2 ^ k % 2 : Nat) : Int)) = .ok (.str (sideS b)) := fun k => by
      rcases (by omega : farN / 2 ^ k % 2 = 0 ∨ farN / 2 ^ k % 2 = 1) with z | z
      · exact ⟨true, by rw [z]; rfl⟩
      · exact ⟨false, by rw [z]; rfl⟩
    exact ⟨fun k => (this k).choose, fun k => (this k).choose_spec⟩
  obtain ⟨SS, hSS⟩ : ∃ SS : List Str, SS = (List.range n).map fun k => sideS (sf k) := ⟨_, rfl⟩
  have SS_len : SS.length = n := by rw [hSS, List.length_map, List.length_range]
  have gdSS : ∀ x ∈ SS, gdS x := fun x hx => by
    rw [hSS] at hx
    obtain ⟨k, _, rfl⟩ := List.mem_map.mp hx
    exact gd_side _
  have okss : SS.all okS = true := by
    rw [List.all_eq_true, hSS]
    intro x hx
    obtain ⟨k, _, rfl⟩ := List.mem_map.mp hx
    cases sf k
    · decide +kernel
    · decide +kernel
  have ckm0 := checkm FU SS fun x hx => (gdSS x hx).1
  rw [okM_all okfu (by rw [SS_len, FU_len]) okss efu] at ckm0
  have ckm : g_check_mixed [.tuple [pwD FU, sidesD SS]] = .ok (.fr .none) := ckm0
  have hword : ∀ x ∈ WORDS, g__law_no_sides [pwD FU, sidesD ((SS.take a ++ [x]) ++ SS.drop (a + 1))] = .ok (.fr (.bool true)) := fun x hx => by
    refine nosides_q (okM_s (s := x) (List.mem_append.mpr (.inl (List.mem_append.mpr (.inr List.mem_cons_self)))) (word_bad x hx)) smfu (fun s hs => ?_) (by rw [List.length_append, List.length_append, List.length_take, List.length_drop]; simp; omega)
    rcases List.mem_append.mp hs with z | z
    · rcases List.mem_append.mp z with z | z
      · exact gdSS s (List.mem_of_mem_take z)
      · rw [List.mem_singleton.mp z]; exact gd_word x hx
    · exact gdSS s (List.mem_of_mem_drop z)
  have ns1 : g__law_no_sides [pwD FU, sidesD (SS.drop 1)] = .ok (.fr (.bool true)) := nosides_q (okM_l (by rw [List.length_drop, SS_len, FU_len]; omega)) smfu (fun s hs => gdSS s (List.mem_of_mem_drop hs)) (by rw [List.length_drop]; omega)
  have ns2 : g__law_no_sides [pwD FU, sidesD (SS ++ [("late" : Str)])] = .ok (.fr (.bool true)) := nosides_q (okM_l (by rw [List.length_append, SS_len, FU_len]; simp)) smfu (fun s hs => (List.mem_append.mp hs).elim (gdSS s) fun z => by rw [List.mem_singleton.mp z]; exact gd_side true) (by rw [List.length_append, SS_len]; simp; omega)
  have ns3 : g__law_no_sides [pwD ([List.replicate n (none : PM)] ++ FU.drop 1), sidesD SS] = .ok (.fr (.bool true)) := by
    refine nosides_q (okM_e ?_) ⟨by rw [List.length_append, List.length_drop, FU_len]; simp; omega, fun r hr => ?_⟩ gdSS (by omega)
    · unfold emptyR
      rw [List.any_eq_true]
      exact ⟨_, List.mem_append.mpr (.inl List.mem_cons_self), by rw [List.all_eq_true]; exact fun p hp => by rw [(List.mem_replicate.mp hp).2]; rfl⟩
    · rcases List.mem_append.mp hr with z | z
      · rw [List.mem_singleton.mp z]
        exact ⟨by rw [List.length_replicate]; omega, fun p hp => by rw [(List.mem_replicate.mp hp).2]; exact smn⟩
      · exact smfu.2 r (List.mem_of_mem_drop z)
  obtain ⟨Z1, hZ1⟩ : ∃ Z, Z = sidesD (SS.drop 1) := ⟨_, rfl⟩
  rw [← hZ1] at ns1
  obtain ⟨Z3, hZ3⟩ : ∃ Z, Z = pwD ([List.replicate n (none : PM)] ++ FU.drop 1) := ⟨_, rfl⟩
  rw [← hZ3] at ns3
  unfold T_law
  refine endR_of (r := .rt (.fr (.bool true))) ?_ rfl
  refine sq_of (e1 := (eL (some (.v (.fr Sx))) (some (.v (.fr (.list [.int d0, .int d1, .int d2, .int d3])))) none none none none none none none none none none none none none none none none)) (by simp -implicitDefEqProofs [eL, c0, edr]) ?_
  refine sq_of (e1 := (eL (some (.v (.fr Sx))) (some (.v (.fr (.list [.int d0, .int d1, .int d2, .int d3])))) (some (.v (.fr (.int (n : Nat))))) none none none none none none none none none none none none none none none)) (by simp -implicitDefEqProofs [eL, hn]) ?_
  refine sq_of (e1 := (eL (some (.v (.fr Sx))) (some (.v (.fr (.list [.int d0, .int d1, .int d2, .int d3])))) (some (.v (.fr (.int (n : Nat))))) (some (.v (.ow (((PW 0 R0).map rD).map S.fr)))) none none none none none none none none none none none none none none)) (by rw [show PW 0 R0 = [] from rfl]; simp -implicitDefEqProofs [eL]) ?_
  obtain ⟨ex, q1, q2⟩ := forF_rng (b := setN 4) (T := LB1)
    (fun i env => env = (eL (some (.v (.fr Sx))) (some (.v (.fr (.list [.int d0, .int d1, .int d2, .int d3])))) (some (.v (.fr (.int (n : Nat))))) (some (.v (.ow (((PW i R0).map rD).map S.fr)))) none none none none none none none none none none none none none none))
    n (eL (some (.v (.fr Sx))) (some (.v (.fr (.list [.int d0, .int d1, .int d2, .int d3])))) (some (.v (.fr (.int (n : Nat))))) (some (.v (.ow (((PW 0 R0).map rD).map S.fr)))) none none none none none none none none none none none none none none) rfl
    (fun i env hi he => by
      subst he
      exact ⟨_, _, rfl, .inl (hrow i hi), rfl⟩)
  subst q2
  refine sq_of (e1 := (eL (some (.v (.fr Sx))) (some (.v (.fr (.list [.int d0, .int d1, .int d2, .int d3])))) (some (.v (.fr (.int (n : Nat))))) (some (.v (.ow ((W.map rD).map S.fr)))) none none none none none none none none none none none none none none)) (by
    rw [e_fgS, e_forS]
    have ec : ∀ env : En, env = (eL (some (.v (.fr Sx))) (some (.v (.fr (.list [.int d0, .int d1, .int d2, .int d3])))) (some (.v (.fr (.int (n : Nat))))) (some (.v (.ow (((PW 0 R0).map rD).map S.fr)))) none none none none none none none none none none none none none none) → cal (consA (vf 2) nilA) rng1 env = .ok (rngL 0 n) := fun env he => by
      subst he
      have er := rng1_ok (n := n) (by omega)
      simp -implicitDefEqProofs [eL, er]
    erw [ec _ rfl, R.st_ok]
    rw [hWn] at q1
    exact q1) ?_
  refine sq_of (e1 := (eL (some (.v (.fr Sx))) (some (.v (.fr (.list [.int d0, .int d1, .int d2, .int d3])))) (some (.v (.fr (.int (n : Nat))))) (some (.v (.ow ((W.map rD).map S.fr)))) none (some (.v (.fr (.str kp)))) none none none none none none none none none none none none)) (by simp -implicitDefEqProofs only [eL, e_asS, e_cal, e_consA, e_nilA, vh_s, vh_z, R.bind_ok, owfr, one, rpw, R.st_ok]; rfl) ?_
  refine sq_of (if_f ((ln3 _ _ _ _ _ _ _ _ _ _ _ _ _ _ _ _ _ _ _).trans (orT_f (by simp -implicitDefEqProofs [eL, ckw]) (by simp -implicitDefEqProofs [eL, rpw, ne_s]))) rfl) ?_
  refine sq_of (e1 := (eL (some (.v (.fr Sx))) (some (.v (.fr (.list [.int d0, .int d1, .int d2, .int d3])))) (some (.v (.fr (.int (n : Nat))))) (some (.v (.ow ((W.map rD).map S.fr)))) (some (.v (.fr (.int (a : Nat))))) (some (.v (.fr (.str kp)))) none none none none none none none none none none none none)) (by simp -implicitDefEqProofs [eL, i1, ma]) ?_
  refine sq_of (e1 := (eL (some (.v (.fr Sx))) (some (.v (.fr (.list [.int d0, .int d1, .int d2, .int d3])))) (some (.v (.fr (.int (n : Nat))))) (some (.v (.ow ((W.map rD).map S.fr)))) (some (.v (.fr (.int (a : Nat))))) (some (.v (.fr (.str kp)))) (some (.v (.fr (.int (b : Nat))))) none none none none none none none none none none none)) (by simp -implicitDefEqProofs [eL, i2, mb]) ?_
  refine sq_of (e1 := (eL (some (.v (.fr Sx))) (some (.v (.fr (.list [.int d0, .int d1, .int d2, .int d3])))) (some (.v (.fr (.int (n : Nat))))) (some (.v (.ow ((W.map rD).map S.fr)))) (some (.v (.fr (.int (a : Nat))))) (some (.v (.fr (.str kp)))) (some (.v (.fr (.int (b : Nat))))) (some (.v (.fr (.int far)))) none none none none none none none none none none)) (by simp -implicitDefEqProofs [eL, i3, hfar]) ?_
  refine sq_of (e1 := (eL (some (.v (.fr Sx))) (some (.v (.fr (.list [.int d0, .int d1, .int d2, .int d3])))) (some (.v (.fr (.int (n : Nat))))) (some (.v (.ow ((W.map rD).map S.fr)))) (some (.v (.fr (.int (a : Nat))))) (some (.v (.fr (.str kp)))) (some (.v (.fr (.int (b : Nat))))) (some (.v (.fr (.int far)))) none none none none none none none none none none)) (by
    obtain ⟨ex, q1, q2⟩ := forF_at (b := setN 8) (T := LA) pD (fun _ env => env = (eL (some (.v (.fr Sx))) (some (.v (.fr (.list [.int d0, .int d1, .int d2, .int d3])))) (some (.v (.fr (.int (n : Nat))))) (some (.v (.ow ((W.map rD).map S.fr)))) (some (.v (.fr (.int (a : Nat))))) (some (.v (.fr (.str kp)))) (some (.v (.fr (.int (b : Nat))))) (some (.v (.fr (.int far)))) none none none none none none none none none none)) OKL 0 _ rfl (fun i x env hx he => by
      subst he
      have hx := List.mem_of_getElem? hx
      refine ⟨_, _, rfl, .inl ?_, rfl⟩
      unfold LA
      refine fnS_of (e1 := (eL (some (.v (.fr Sx))) (some (.v (.fr (.list [.int d0, .int d1, .int d2, .int d3])))) (some (.v (.fr (.int (n : Nat))))) (some (.v (.ow ((W.map rD).map S.fr)))) (some (.v (.fr (.int (a : Nat))))) (some (.v (.fr (.str kp)))) (some (.v (.fr (.int (b : Nat))))) (some (.v (.fr (.int far)))) (some (.v (.fr (pD x)))) none none none none none none none none none)) ?_ rfl
      refine if_f ((ln3 _ _ _ _ _ _ _ _ _ _ _ _ _ _ _ _ _ _ _).trans ?_) rfl
      have e1 := ckset x (okl x hx)
      simp -implicitDefEqProofs [eL, hw, hwith, wPS_toD, e1])
    subst q2
    rw [e_fgS, e_forS]
    have ec : ∀ env : En, env = (eL (some (.v (.fr Sx))) (some (.v (.fr (.list [.int d0, .int d1, .int d2, .int d3])))) (some (.v (.fr (.int (n : Nat))))) (some (.v (.ow ((W.map rD).map S.fr)))) (some (.v (.fr (.int (a : Nat))))) (some (.v (.fr (.str kp)))) (some (.v (.fr (.int (b : Nat))))) (some (.v (.fr (.int far)))) none none none none none none none none none none) → (seqR (unO (lstR (consA (tupR (consA (cI 1000000) (consA (cI 1) nilA))) (consA (tupR (consA (negR (cI 1000000)) (consA (cI 999999) nilA))) (consA (tupR (consA (cI 0) (consA (cI 1) nilA))) (consA (tupR (consA (cI 1) (consA (cI 1000000) nilA))) (consA cN (consA (tupR (consA (negR (cI 1)) (consA (cI 1) nilA))) nilA))))))))) env = .ok (OKL.map pD) := fun env he => by
      subst he
      rfl
    erw [ec _ rfl, R.st_ok]
    exact q1) ?_
  refine sq_of (e1 := (eL (some (.v (.fr Sx))) (some (.v (.fr (.list [.int d0, .int d1, .int d2, .int d3])))) (some (.v (.fr (.int (n : Nat))))) (some (.v (.ow ((W.map rD).map S.fr)))) (some (.v (.fr (.int (a : Nat))))) (some (.v (.fr (.str kp)))) (some (.v (.fr (.int (b : Nat))))) (some (.v (.fr (.int far)))) none (some (.v (.fr (.list ((WR1 far).map prD))))) none none none none none none none none)) (by simp -implicitDefEqProofs [eL, WR1, prD, pD]) ?_
  have h_w2 : ∀ env : En, env = (eL (some (.v (.fr Sx))) (some (.v (.fr (.list [.int d0, .int d1, .int d2, .int d3])))) (some (.v (.fr (.int (n : Nat))))) (some (.v (.ow ((W.map rD).map S.fr)))) (some (.v (.fr (.int (a : Nat))))) (some (.v (.fr (.str kp)))) (some (.v (.fr (.int (b : Nat))))) (some (.v (.fr (.int far)))) none (some (.v (.fr (.list ((WR1 far).map prD))))) none none none none none none none none) → (unO (lstR (consA (tupR (consA (cI 1) (consA (cI 0) nilA))) (consA (tupR (consA (cI 1) (consA (negR (cI 1)) nilA))) (consA (tupR (consA (negR (vf 7)) (consA (negR (vf 7)) nilA))) (consA (tupR (consA (cI 0) (consA (negR (cI 1)) nilA))) (consA (tupR (consA (vf 7) (consA (negR (vf 7)) nilA))) (consA (tupR (consA (b2 (vf 7) (cI 2) mulD) (consA (cI 4) nilA))) (consA (tupR (consA (cI 0) (consA (cI 3) nilA))) (consA (tupR (consA (cI 3) (consA (cI 3) nilA))) (consA (tupR (consA (cI 15) (consA (cI 60) nilA))) (consA (tupR (consA (b2 (negR (vf 7)) (cI 7) mulD) (consA (b2 (cI 7) (vf 7) mulD) nilA))) nilA)))))))))))) env = .ok (.list ((WR2 far).map prD)) := fun env he => by
    subst he
    simp -implicitDefEqProofs [eL, WR2, prD, pD, mf2, mf7, m7f]
  have h_w3 : ∀ env : En, env = (eL (some (.v (.fr Sx))) (some (.v (.fr (.list [.int d0, .int d1, .int d2, .int d3])))) (some (.v (.fr (.int (n : Nat))))) (some (.v (.ow ((W.map rD).map S.fr)))) (some (.v (.fr (.int (a : Nat))))) (some (.v (.fr (.str kp)))) (some (.v (.fr (.int (b : Nat))))) (some (.v (.fr (.int far)))) none (some (.v (.fr (.list ((WR1 far).map prD))))) none none none none none none none none) → (b2 (vf 9) (unO (lstR (consA (tupR (consA (cI 1) (consA (cI 0) nilA))) (consA (tupR (consA (cI 1) (consA (negR (cI 1)) nilA))) (consA (tupR (consA (negR (vf 7)) (consA (negR (vf 7)) nilA))) (consA (tupR (consA (cI 0) (consA (negR (cI 1)) nilA))) (consA (tupR (consA (vf 7) (consA (negR (vf 7)) nilA))) (consA (tupR (consA (b2 (vf 7) (cI 2) mulD) (consA (cI 4) nilA))) (consA (tupR (consA (cI 0) (consA (cI 3) nilA))) (consA (tupR (consA (cI 3) (consA (cI 3) nilA))) (consA (tupR (consA (cI 15) (consA (cI 60) nilA))) (consA (tupR (consA (b2 (negR (vf 7)) (cI 7) mulD) (consA (b2 (cI 7) (vf 7) mulD) nilA))) nilA)))))))))))) addD) env = .ok (.list ((WR1 far ++ WR2 far).map prD)) := fun env he => by
    subst he
    exact ad_ls (f := vf 9) rfl (h_w2 _ rfl) (by simp [WR1, WR2])
  refine sq_of (e1 := (eL (some (.v (.fr Sx))) (some (.v (.fr (.list [.int d0, .int d1, .int d2, .int d3])))) (some (.v (.fr (.int (n : Nat))))) (some (.v (.ow ((W.map rD).map S.fr)))) (some (.v (.fr (.int (a : Nat))))) (some (.v (.fr (.str kp)))) (some (.v (.fr (.int (b : Nat))))) (some (.v (.fr (.int far)))) none (some (.v (.fr (.list ((WR1 far ++ WR2 far).map prD))))) none none none none none none none none)) (by rw [e_asS, h_w3 _ rfl, R.st_ok]; rfl) ?_
  have h_red : ∀ env : En, env = (eL (some (.v (.fr Sx))) (some (.v (.fr (.list [.int d0, .int d1, .int d2, .int d3])))) (some (.v (.fr (.int (n : Nat))))) (some (.v (.ow ((W.map rD).map S.fr)))) (some (.v (.fr (.int (a : Nat))))) (some (.v (.fr (.str kp)))) (some (.v (.fr (.int (b : Nat))))) (some (.v (.fr (.int far)))) none (some (.v (.fr (.list ((WR1 far ++ WR2 far).map prD))))) none none none none none none none none) → (unO (cal (consA (vf 7) nilA) g__law_reducible)) env = .ok (.list ((redL far [3, 5, 7, 11, 13, 101, 997]).map prD)) := fun env he => by
    subst he
    have e := reducible_q far
    have e3 : (S.ow ((redL far [3, 5, 7, 11, 13, 101, 997]).map fun p => .fr (prD p))).toD = .list ((redL far [3, 5, 7, 11, 13, 101, 997]).map prD) := by
      have := owfr ((redL far [3, 5, 7, 11, 13, 101, 997]).map prD)
      rw [List.map_map] at this; exact this
    simp -implicitDefEqProofs only [eL, e_unO, e_cal, e_consA, e_nilA, vf_s, vf_z, R.bind_ok, e, e3]
  refine sq_of (e1 := (eL (some (.v (.fr Sx))) (some (.v (.fr (.list [.int d0, .int d1, .int d2, .int d3])))) (some (.v (.fr (.int (n : Nat))))) (some (.v (.ow ((W.map rD).map S.fr)))) (some (.v (.fr (.int (a : Nat))))) (some (.v (.fr (.str kp)))) (some (.v (.fr (.int (b : Nat))))) (some (.v (.fr (.int far)))) none (some (.v (.fr (.list ((WR1 far ++ WR2 far).map prD))))) none none none none none none none none)) (by
    obtain ⟨ex, q1, q2⟩ := forF_at (b := setN 8) (T := LBb) prD (fun _ env => env = (eL (some (.v (.fr Sx))) (some (.v (.fr (.list [.int d0, .int d1, .int d2, .int d3])))) (some (.v (.fr (.int (n : Nat))))) (some (.v (.ow ((W.map rD).map S.fr)))) (some (.v (.fr (.int (a : Nat))))) (some (.v (.fr (.str kp)))) (some (.v (.fr (.int (b : Nat))))) (some (.v (.fr (.int far)))) none (some (.v (.fr (.list ((WR1 far ++ WR2 far).map prD))))) none none none none none none none none)) WALL 0 _ rfl (fun i x env hx he => by
      subst he
      have hx := List.mem_of_getElem? hx
      refine ⟨_, _, rfl, .inl ?_, rfl⟩
      unfold LBb
      refine fnS_of (e1 := (eL (some (.v (.fr Sx))) (some (.v (.fr (.list [.int d0, .int d1, .int d2, .int d3])))) (some (.v (.fr (.int (n : Nat))))) (some (.v (.ow ((W.map rD).map S.fr)))) (some (.v (.fr (.int (a : Nat))))) (some (.v (.fr (.str kp)))) (some (.v (.fr (.int (b : Nat))))) (some (.v (.fr (.int far)))) (some (.v (.fr (prD x)))) (some (.v (.fr (.list ((WR1 far ++ WR2 far).map prD))))) none none none none none none none none)) ?_ rfl
      refine if_f ((ln3 _ _ _ _ _ _ _ _ _ _ _ _ _ _ _ _ _ _ _).trans ?_) rfl
      have e1 := rfset x (hfb x hx)
      have e0 : g__law_with [w, .int (a : Nat), .int (b : Nat), prD x] = .ok (wPS (W.set a ((W[a]'haW).set b (some x)))) := hwith (some x)
      simp -implicitDefEqProofs [eL, hw, e0, wPS_toD, e1])
    subst q2
    rw [e_fgS, e_forS]
    have ec : ∀ env : En, env = (eL (some (.v (.fr Sx))) (some (.v (.fr (.list [.int d0, .int d1, .int d2, .int d3])))) (some (.v (.fr (.int (n : Nat))))) (some (.v (.ow ((W.map rD).map S.fr)))) (some (.v (.fr (.int (a : Nat))))) (some (.v (.fr (.str kp)))) (some (.v (.fr (.int (b : Nat))))) (some (.v (.fr (.int far)))) none (some (.v (.fr (.list ((WR1 far ++ WR2 far).map prD))))) none none none none none none none none) → (seqR (b2 (vf 9) (unO (cal (consA (vf 7) nilA) g__law_reducible)) addD)) env = .ok (WALL.map prD) := fun env he => by
      subst he
      rw [e_seqR, ad_ls (f := vf 9) (xs := WR1 far ++ WR2 far) rfl (h_red _ rfl) (by simp [WR1, WR2, redL]), R.bind_ok, seq_l, hWALL]
    erw [ec _ rfl, R.st_ok]
    exact q1) ?_
  have hv3 : vq 3 (eL (some (.v (.fr Sx))) (some (.v (.fr (.list [.int d0, .int d1, .int d2, .int d3])))) (some (.v (.fr (.int (n : Nat))))) (some (.v (.ow ((W.map rD).map S.fr)))) (some (.v (.fr (.int (a : Nat))))) (some (.v (.fr (.str kp)))) (some (.v (.fr (.int (b : Nat))))) (some (.v (.fr (.int far)))) none (some (.v (.fr (.list ((WR1 far ++ WR2 far).map prD))))) none none none none none none none none) = .ok (.list (W.map rD)) := vq_at rfl
  have ixa : b2 (vq 3) (vf 4) ixD (eL (some (.v (.fr Sx))) (some (.v (.fr (.list [.int d0, .int d1, .int d2, .int d3])))) (some (.v (.fr (.int (n : Nat))))) (some (.v (.ow ((W.map rD).map S.fr)))) (some (.v (.fr (.int (a : Nat))))) (some (.v (.fr (.str kp)))) (some (.v (.fr (.int (b : Nat))))) (some (.v (.fr (.int far)))) none (some (.v (.fr (.list ((WR1 far ++ WR2 far).map prD))))) none none none none none none none none) = .ok (rD (R0 a)) := ix_at hv3 rfl hWa
  have b_1 : (unO (lstR nilA)) (eL (some (.v (.fr Sx))) (some (.v (.fr (.list [.int d0, .int d1, .int d2, .int d3])))) (some (.v (.fr (.int (n : Nat))))) (some (.v (.ow ((W.map rD).map S.fr)))) (some (.v (.fr (.int (a : Nat))))) (some (.v (.fr (.str kp)))) (some (.v (.fr (.int (b : Nat))))) (some (.v (.fr (.int far)))) none (some (.v (.fr (.list ((WR1 far ++ WR2 far).map prD))))) none none none none none none none none) = .ok (pwD ([] : List (List PM))) := ls_nil
  have b_2 : (b2 (vq 3) (unO (lstR (consA (b2 (vq 3) (cI 0) ixD) nilA))) addD) (eL (some (.v (.fr Sx))) (some (.v (.fr (.list [.int d0, .int d1, .int d2, .int d3])))) (some (.v (.fr (.int (n : Nat))))) (some (.v (.ow ((W.map rD).map S.fr)))) (some (.v (.fr (.int (a : Nat))))) (some (.v (.fr (.str kp)))) (some (.v (.fr (.int (b : Nat))))) (some (.v (.fr (.int far)))) none (some (.v (.fr (.list ((WR1 far ++ WR2 far).map prD))))) none none none none none none none none) = .ok (pwD (W ++ [R0 0])) := ad_ls hv3 (ls_one (cd := rD) (ix_at (k := 0) hv3 rfl hW0)) (by rw [hWl]; simp; omega)
  have b_3 : (b2 (unO (slR (vq 3) noneO (someO (vf 4)) slcD)) (unO (slR (vq 3) (someO (b2 (vf 4) (cI 1) addD)) noneO slcD)) addD) (eL (some (.v (.fr Sx))) (some (.v (.fr (.list [.int d0, .int d1, .int d2, .int d3])))) (some (.v (.fr (.int (n : Nat))))) (some (.v (.ow ((W.map rD).map S.fr)))) (some (.v (.fr (.int (a : Nat))))) (some (.v (.fr (.str kp)))) (some (.v (.fr (.int (b : Nat))))) (some (.v (.fr (.int far)))) none (some (.v (.fr (.list ((WR1 far ++ WR2 far).map prD))))) none none none none none none none none) = .ok (pwD (W.take a ++ W.drop (a + 1))) := ad_ls (sl_to (xs := W) (cd := rD) (k := a) hv3 rfl) (sl_from (xs := W) (cd := rD) (k := a + 1) hv3 rfl) hl1
  have b_4 : (unO (compR [16] (seqR (vq 3)) (setN 16) yesT (frR (b2 (vf 16) (unO (lstR (consA cN nilA))) addD)))) (eL (some (.v (.fr Sx))) (some (.v (.fr (.list [.int d0, .int d1, .int d2, .int d3])))) (some (.v (.fr (.int (n : Nat))))) (some (.v (.ow ((W.map rD).map S.fr)))) (some (.v (.fr (.int (a : Nat))))) (some (.v (.fr (.str kp)))) (some (.v (.fr (.int (b : Nat))))) (some (.v (.fr (.int far)))) none (some (.v (.fr (.list ((WR1 far ++ WR2 far).map prD))))) none none none none none none none none) = .ok (pwD (PW n fun k => R0 k ++ [none])) := by
    rw [e_unO, comp_seq (xs := List.range n) (fun k => rD (R0 k)) (fun k => .fr (rD (R0 k ++ [none]))) (hv3.trans (by rw [hWmap])) (by rw [List.length_range]; omega) (fun k hk => by
      have e : addD (rD (R0 k)) (.list [.none]) = .ok (rD (R0 k ++ [none])) := rD_app (R0 k) [none] (by rw [R0_len]; exact n12)
      simp -implicitDefEqProofs [eL, e])]
    rw [R.bind_ok, toPW]
  have b_5 : (b2 (b2 (unO (slR (vq 3) noneO (someO (vf 4)) slcD)) (unO (lstR (consA (b2 (b2 (vq 3) (vf 4) ixD) (unO (lstR (consA cN nilA))) addD) nilA))) addD) (unO (slR (vq 3) (someO (b2 (vf 4) (cI 1) addD)) noneO slcD)) addD) (eL (some (.v (.fr Sx))) (some (.v (.fr (.list [.int d0, .int d1, .int d2, .int d3])))) (some (.v (.fr (.int (n : Nat))))) (some (.v (.ow ((W.map rD).map S.fr)))) (some (.v (.fr (.int (a : Nat))))) (some (.v (.fr (.str kp)))) (some (.v (.fr (.int (b : Nat))))) (some (.v (.fr (.int far)))) none (some (.v (.fr (.list ((WR1 far ++ WR2 far).map prD))))) none none none none none none none none) = .ok (pwD ((W.take a ++ [R0 a ++ [none]]) ++ W.drop (a + 1))) := ad_ls (ad_ls (sl_to (xs := W) (cd := rD) (k := a) hv3 rfl) (ls_one (cd := rD) (ad_ls (cd := pD) (xs := R0 a) (ys := [none]) ixa (ls_one (cd := pD) (x := none) rfl) (by rw [R0_len]; simp; omega))) hl2) (sl_from (xs := W) (cd := rD) (k := a + 1) hv3 rfl) (hl3 _)
  have b_6 : (b2 (b2 (unO (slR (vq 3) noneO (someO (vf 4)) slcD)) (unO (lstR (consA (unO (slR (b2 (vq 3) (vf 4) ixD) (someO (cI 1)) noneO slcD)) nilA))) addD) (unO (slR (vq 3) (someO (b2 (vf 4) (cI 1) addD)) noneO slcD)) addD) (eL (some (.v (.fr Sx))) (some (.v (.fr (.list [.int d0, .int d1, .int d2, .int d3])))) (some (.v (.fr (.int (n : Nat))))) (some (.v (.ow ((W.map rD).map S.fr)))) (some (.v (.fr (.int (a : Nat))))) (some (.v (.fr (.str kp)))) (some (.v (.fr (.int (b : Nat))))) (some (.v (.fr (.int far)))) none (some (.v (.fr (.list ((WR1 far ++ WR2 far).map prD))))) none none none none none none none none) = .ok (pwD ((W.take a ++ [(R0 a).drop 1]) ++ W.drop (a + 1))) := ad_ls (ad_ls (sl_to (xs := W) (cd := rD) (k := a) hv3 rfl) (ls_one (cd := rD) (x := (R0 a).drop 1) (sl_from (cd := pD) (xs := R0 a) (k := 1) ixa rfl)) hl2) (sl_from (xs := W) (cd := rD) (k := a + 1) hv3 rfl) (hl3 _)
  refine sq_of (e1 := (eL (some (.v (.fr Sx))) (some (.v (.fr (.list [.int d0, .int d1, .int d2, .int d3])))) (some (.v (.fr (.int (n : Nat))))) (some (.v (.ow ((W.map rD).map S.fr)))) (some (.v (.fr (.int (a : Nat))))) (some (.v (.fr (.str kp)))) (some (.v (.fr (.int (b : Nat))))) (some (.v (.fr (.int far)))) none (some (.v (.fr (.list ((WR1 far ++ WR2 far).map prD))))) (some (.v (.ow ((BAD1.map pwD).map S.fr)))) none none none none none none none)) (by
    rw [e_asO, e_lstR]
    simp -implicitDefEqProofs only [e_consA, e_nilA, b_1, b_2, b_3, b_4, b_5, b_6, R.bind_ok, List.length_cons, List.length_nil]
    rw [if_pos (by decide), R.st_ok, hBAD1]
    rfl) ?_
  have hv3 : vq 3 (eL (some (.v (.fr Sx))) (some (.v (.fr (.list [.int d0, .int d1, .int d2, .int d3])))) (some (.v (.fr (.int (n : Nat))))) (some (.v (.ow ((W.map rD).map S.fr)))) (some (.v (.fr (.int (a : Nat))))) (some (.v (.fr (.str kp)))) (some (.v (.fr (.int (b : Nat))))) (some (.v (.fr (.int far)))) none (some (.v (.fr (.list ((WR1 far ++ WR2 far).map prD))))) (some (.v (.ow ((BAD1.map pwD).map S.fr)))) none none none none none none none) = .ok (.list (W.map rD)) := vq_at rfl
  have hv10 : vq 10 (eL (some (.v (.fr Sx))) (some (.v (.fr (.list [.int d0, .int d1, .int d2, .int d3])))) (some (.v (.fr (.int (n : Nat))))) (some (.v (.ow ((W.map rD).map S.fr)))) (some (.v (.fr (.int (a : Nat))))) (some (.v (.fr (.str kp)))) (some (.v (.fr (.int (b : Nat))))) (some (.v (.fr (.int far)))) none (some (.v (.fr (.list ((WR1 far ++ WR2 far).map prD))))) (some (.v (.ow ((BAD1.map pwD).map S.fr)))) none none none none none none none) = .ok (.list (BAD1.map pwD)) := vq_at rfl
  have hq : ∀ env : En, env = (eL (some (.v (.fr Sx))) (some (.v (.fr (.list [.int d0, .int d1, .int d2, .int d3])))) (some (.v (.fr (.int (n : Nat))))) (some (.v (.ow ((W.map rD).map S.fr)))) (some (.v (.fr (.int (a : Nat))))) (some (.v (.fr (.str kp)))) (some (.v (.fr (.int (b : Nat))))) (some (.v (.fr (.int far)))) none (some (.v (.fr (.list ((WR1 far ++ WR2 far).map prD))))) (some (.v (.ow ((BAD1.map pwD).map S.fr)))) none none none none none none none) → b2 (cI 13) (b2 (cal (consA (vf 7) nilA) (one intD)) (cI 3) modD) addD env = .ok (.int (q : Nat)) := fun env he => by
    subst he
    simp -implicitDefEqProofs [eL, mq, hqq]
  have b_7 : (unO (repR (lstR (consA (unO (repR (lstR (consA cN nilA)) (cI 13))) nilA)) (cI 13))) (eL (some (.v (.fr Sx))) (some (.v (.fr (.list [.int d0, .int d1, .int d2, .int d3])))) (some (.v (.fr (.int (n : Nat))))) (some (.v (.ow ((W.map rD).map S.fr)))) (some (.v (.fr (.int (a : Nat))))) (some (.v (.fr (.str kp)))) (some (.v (.fr (.int (b : Nat))))) (some (.v (.fr (.int far)))) none (some (.v (.fr (.list ((WR1 far ++ WR2 far).map prD))))) (some (.v (.ow ((BAD1.map pwD).map S.fr)))) none none none none none none none) = .ok (pwD (List.replicate 13 (List.replicate 13 (none : PM)))) := rep_ls (cd := rD) (n := 13) (rep_ls (cd := pD) (x := none) (n := 13) rfl rfl (by decide)) rfl (by decide)
  have b_8 : (unO (repR (lstR (consA (unO (repR (lstR (consA cN nilA)) (b2 (cI 13) (b2 (cal (consA (vf 7) nilA) (one intD)) (cI 3) modD) addD))) nilA)) (b2 (cI 13) (b2 (cal (consA (vf 7) nilA) (one intD)) (cI 3) modD) addD))) (eL (some (.v (.fr Sx))) (some (.v (.fr (.list [.int d0, .int d1, .int d2, .int d3])))) (some (.v (.fr (.int (n : Nat))))) (some (.v (.ow ((W.map rD).map S.fr)))) (some (.v (.fr (.int (a : Nat))))) (some (.v (.fr (.str kp)))) (some (.v (.fr (.int (b : Nat))))) (some (.v (.fr (.int far)))) none (some (.v (.fr (.list ((WR1 far ++ WR2 far).map prD))))) (some (.v (.ow ((BAD1.map pwD).map S.fr)))) none none none none none none none) = .ok (pwD (List.replicate q (List.replicate q (none : PM)))) := rep_ls (cd := rD) (n := q) (rep_ls (cd := pD) (x := none) (n := q) rfl (hq _ rfl) (by omega)) (hq _ rfl) (by omega)
  have b_9 : (unO (lstR (consA (unO (lstR nilA)) nilA))) (eL (some (.v (.fr Sx))) (some (.v (.fr (.list [.int d0, .int d1, .int d2, .int d3])))) (some (.v (.fr (.int (n : Nat))))) (some (.v (.ow ((W.map rD).map S.fr)))) (some (.v (.fr (.int (a : Nat))))) (some (.v (.fr (.str kp)))) (some (.v (.fr (.int (b : Nat))))) (some (.v (.fr (.int far)))) none (some (.v (.fr (.list ((WR1 far ++ WR2 far).map prD))))) (some (.v (.ow ((BAD1.map pwD).map S.fr)))) none none none none none none none) = .ok (pwD [([] : List PM)]) := ls_one (cd := rD) (x := []) (ls_nil (cd := pD))
  have b_10 : (b2 (b2 (unO (slR (vq 3) noneO (someO (vf 4)) slcD)) (unO (lstR (consA (unO (lstR nilA)) nilA))) addD) (unO (slR (vq 3) (someO (b2 (vf 4) (cI 1) addD)) noneO slcD)) addD) (eL (some (.v (.fr Sx))) (some (.v (.fr (.list [.int d0, .int d1, .int d2, .int d3])))) (some (.v (.fr (.int (n : Nat))))) (some (.v (.ow ((W.map rD).map S.fr)))) (some (.v (.fr (.int (a : Nat))))) (some (.v (.fr (.str kp)))) (some (.v (.fr (.int (b : Nat))))) (some (.v (.fr (.int far)))) none (some (.v (.fr (.list ((WR1 far ++ WR2 far).map prD))))) (some (.v (.ow ((BAD1.map pwD).map S.fr)))) none none none none none none none) = .ok (pwD ((W.take a ++ [([] : List PM)]) ++ W.drop (a + 1))) := ad_ls (ad_ls (sl_to (xs := W) (cd := rD) (k := a) hv3 rfl) (ls_one (cd := rD) (x := []) (ls_nil (cd := pD))) hl2) (sl_from (xs := W) (cd := rD) (k := a + 1) hv3 rfl) (hl3 _)
  refine sq_of (e1 := (eL (some (.v (.fr Sx))) (some (.v (.fr (.list [.int d0, .int d1, .int d2, .int d3])))) (some (.v (.fr (.int (n : Nat))))) (some (.v (.ow ((W.map rD).map S.fr)))) (some (.v (.fr (.int (a : Nat))))) (some (.v (.fr (.str kp)))) (some (.v (.fr (.int (b : Nat))))) (some (.v (.fr (.int far)))) none (some (.v (.fr (.list ((WR1 far ++ WR2 far).map prD))))) (some (.v (.ow (((BAD1 ++ BAD2).map pwD).map S.fr)))) none none none none none none none)) (by
    have e5 : (unO (lstR (consA (unO (repR (lstR (consA (unO (repR (lstR (consA cN nilA)) (cI 13))) nilA)) (cI 13))) (consA (unO (repR (lstR (consA (unO (repR (lstR (consA cN nilA)) (b2 (cI 13) (b2 (cal (consA (vf 7) nilA) (one intD)) (cI 3) modD) addD))) nilA)) (b2 (cI 13) (b2 (cal (consA (vf 7) nilA) (one intD)) (cI 3) modD) addD))) (consA (unO (lstR (consA (unO (lstR nilA)) nilA))) (consA (b2 (b2 (unO (slR (vq 3) noneO (someO (vf 4)) slcD)) (unO (lstR (consA (unO (lstR nilA)) nilA))) addD) (unO (slR (vq 3) (someO (b2 (vf 4) (cI 1) addD)) noneO slcD)) addD) nilA)))))) (eL (some (.v (.fr Sx))) (some (.v (.fr (.list [.int d0, .int d1, .int d2, .int d3])))) (some (.v (.fr (.int (n : Nat))))) (some (.v (.ow ((W.map rD).map S.fr)))) (some (.v (.fr (.int (a : Nat))))) (some (.v (.fr (.str kp)))) (some (.v (.fr (.int (b : Nat))))) (some (.v (.fr (.int far)))) none (some (.v (.fr (.list ((WR1 far ++ WR2 far).map prD))))) (some (.v (.ow ((BAD1.map pwD).map S.fr)))) none none none none none none none) = .ok (.list (BAD2.map pwD)) := by
      rw [e_unO, e_lstR]
      simp -implicitDefEqProofs only [e_consA, e_nilA, b_7, b_8, b_9, b_10, R.bind_ok, List.length_cons, List.length_nil]
      rw [if_pos (by decide), R.bind_ok, owfr, hBAD2]
      rfl
    rw [e_asO, e_adR, hv10, R.bind_ok, e5, R.bind_ok]
    unfold addO
    dsimp only
    rw [if_pos (by rw [List.length_map, List.length_map, hB1, hB2]; decide), R.st_ok, ← List.map_append]
    rfl) ?_
  have hmv : ∃ (y6 y11 : Option Sl), (ifS (t2 (vf 2) (cI 1) gtD)
  (sqS (asS 6 (b2 (cal (consA (b2 (vf 4) (cI 1) addD) nilA) (one intD)) (vf 2) modD))
  (sqS (asO 11 (compR [16] (seqR (vq 3)) (setN 16) yesT (cal (consA (vf 16) nilA) (one listD))))
  (sqS (apPopS 11 (rfX 11 (rfV 11) (vf 6)) (rfX 11 (rfV 11) (vf 4)))
  (fzS 11 (apS 10 (frR (vf 11)))))))
  nxS) (eL (some (.v (.fr Sx))) (some (.v (.fr (.list [.int d0, .int d1, .int d2, .int d3])))) (some (.v (.fr (.int (n : Nat))))) (some (.v (.ow ((W.map rD).map S.fr)))) (some (.v (.fr (.int (a : Nat))))) (some (.v (.fr (.str kp)))) (some (.v (.fr (.int (b : Nat))))) (some (.v (.fr (.int far)))) none (some (.v (.fr (.list ((WR1 far ++ WR2 far).map prD))))) (some (.v (.ow (((BAD1 ++ BAD2).map pwD).map S.fr)))) none none none none none none none) = .nx (eL (some (.v (.fr Sx))) (some (.v (.fr (.list [.int d0, .int d1, .int d2, .int d3])))) (some (.v (.fr (.int (n : Nat))))) (some (.v (.ow ((W.map rD).map S.fr)))) (some (.v (.fr (.int (a : Nat))))) (some (.v (.fr (.str kp)))) y6 (some (.v (.fr (.int far)))) none (some (.v (.fr (.list ((WR1 far ++ WR2 far).map prD))))) (some (.v (.ow (((BAD1 ++ BAD2 ++ BAD3).map pwD).map S.fr)))) y11 none none none none none none) := by
    by_cases h1 : 1 < n
    · obtain ⟨c, hc, hc12, hca⟩ := hcc h1
      obtain ⟨r, m, hrm⟩ : ∃ r m, R0 a = r ++ [m] := ⟨(R0 a).dropLast, (R0 a).getLast (fun z => by have := R0_len a; rw [z] at this; simp at this; omega), (List.dropLast_concat_getLast _).symm⟩
      have cnd : t2 (vf 2) (cI 1) gtD (eL (some (.v (.fr Sx))) (some (.v (.fr (.list [.int d0, .int d1, .int d2, .int d3])))) (some (.v (.fr (.int (n : Nat))))) (some (.v (.ow ((W.map rD).map S.fr)))) (some (.v (.fr (.int (a : Nat))))) (some (.v (.fr (.str kp)))) (some (.v (.fr (.int (b : Nat))))) (some (.v (.fr (.int far)))) none (some (.v (.fr (.list ((WR1 far ++ WR2 far).map prD))))) (some (.v (.ow (((BAD1 ++ BAD2).map pwD).map S.fr)))) none none none none none none none) = .ok true := by
        have h2 : decide ((1 : Int) < ((n : Nat) : Int)) = true := decide_eq_true (by omega)
        simp -implicitDefEqProofs only [eL, e_t2, vf_s, vf_z, e_cI, R.bind_ok, gt_i, h2, tob_b]
      have cl : ∀ env : En, env = (eL (some (.v (.fr Sx))) (some (.v (.fr (.list [.int d0, .int d1, .int d2, .int d3])))) (some (.v (.fr (.int (n : Nat))))) (some (.v (.ow ((W.map rD).map S.fr)))) (some (.v (.fr (.int (a : Nat))))) (some (.v (.fr (.str kp)))) (some (.v (.fr (.int (c : Nat))))) (some (.v (.fr (.int far)))) none (some (.v (.fr (.list ((WR1 far ++ WR2 far).map prD))))) (some (.v (.ow (((BAD1 ++ BAD2).map pwD).map S.fr)))) none none none none none none none) → compR [16] (seqR (vq 3)) (setN 16) yesT (cal (consA (vf 16) nilA) (one listD)) env = .ok (wPS W) := fun env he => by
        subst he
        rw [comp_seq (xs := W) rD (fun r => .ow (r.map fun p => .fr (pD p))) (vq_at rfl) (by rw [hWl]; omega) (fun r _ => by
          simp -implicitDefEqProofs [eL, rD, Function.comp_def])]
        rfl
      refine ⟨(some (.v (.fr (.int (c : Nat))))), some (.v (.fr (pwD ((W.set a r).set c (R0 c ++ [m]))))), ?_⟩
      rw [e_ifS, cnd, R.st_ok]
      dsimp only
      refine sq_of (e1 := (eL (some (.v (.fr Sx))) (some (.v (.fr (.list [.int d0, .int d1, .int d2, .int d3])))) (some (.v (.fr (.int (n : Nat))))) (some (.v (.ow ((W.map rD).map S.fr)))) (some (.v (.fr (.int (a : Nat))))) (some (.v (.fr (.str kp)))) (some (.v (.fr (.int (c : Nat))))) (some (.v (.fr (.int far)))) none (some (.v (.fr (.list ((WR1 far ++ WR2 far).map prD))))) (some (.v (.ow (((BAD1 ++ BAD2).map pwD).map S.fr)))) none none none none none none none)) (by simp -implicitDefEqProofs [eL, hc]) ?_
      refine sq_of (e1 := (eL (some (.v (.fr Sx))) (some (.v (.fr (.list [.int d0, .int d1, .int d2, .int d3])))) (some (.v (.fr (.int (n : Nat))))) (some (.v (.ow ((W.map rD).map S.fr)))) (some (.v (.fr (.int (a : Nat))))) (some (.v (.fr (.str kp)))) (some (.v (.fr (.int (c : Nat))))) (some (.v (.fr (.int far)))) none (some (.v (.fr (.list ((WR1 far ++ WR2 far).map prD))))) (some (.v (.ow (((BAD1 ++ BAD2).map pwD).map S.fr)))) (some (.v (wPS W))) none none none none none none)) (by rw [e_asO, cl _ rfl, R.st_ok]; rfl) ?_
      have hwa : W[a]'haW = r ++ [m] := by rw [hWg, hrm]
      have hwc : W[c]'(by rw [hWl]; exact hc12) = R0 c := hWg c _
      refine sq_of (e1 := (eL (some (.v (.fr Sx))) (some (.v (.fr (.list [.int d0, .int d1, .int d2, .int d3])))) (some (.v (.fr (.int (n : Nat))))) (some (.v (.ow ((W.map rD).map S.fr)))) (some (.v (.fr (.int (a : Nat))))) (some (.v (.fr (.str kp)))) (some (.v (.fr (.int (c : Nat))))) (some (.v (.fr (.int far)))) none (some (.v (.fr (.list ((WR1 far ++ WR2 far).map prD))))) (some (.v (.ow (((BAD1 ++ BAD2).map pwD).map S.fr)))) (some (.v (wPS ((W.set a r).set c (R0 c ++ [m]))))) none none none none none none)) (appop_w (w := W) (a := a) (c := c) (r := r) (rc := R0 c) (m := m) rfl (rfX_w (w := W) rfl (by simp -implicitDefEqProofs [eL]) (by rw [hWl]; exact hc12)) (rfX_w (w := W) rfl (by simp -implicitDefEqProofs [eL]) haW) hca haW (by rw [hWl]; exact hc12) hwa hwc (by rw [R0_len]; omega)) ?_
      have hfz : fzE (eL (some (.v (.fr Sx))) (some (.v (.fr (.list [.int d0, .int d1, .int d2, .int d3])))) (some (.v (.fr (.int (n : Nat))))) (some (.v (.ow ((W.map rD).map S.fr)))) (some (.v (.fr (.int (a : Nat))))) (some (.v (.fr (.str kp)))) (some (.v (.fr (.int (c : Nat))))) (some (.v (.fr (.int far)))) none (some (.v (.fr (.list ((WR1 far ++ WR2 far).map prD))))) (some (.v (.ow (((BAD1 ++ BAD2).map pwD).map S.fr)))) (some (.v (wPS ((W.set a r).set c (R0 c ++ [m]))))) none none none none none none) 11 = (eL (some (.v (.fr Sx))) (some (.v (.fr (.list [.int d0, .int d1, .int d2, .int d3])))) (some (.v (.fr (.int (n : Nat))))) (some (.v (.ow ((W.map rD).map S.fr)))) (some (.v (.fr (.int (a : Nat))))) (some (.v (.fr (.str kp)))) (some (.v (.fr (.int (c : Nat))))) (some (.v (.fr (.int far)))) none (some (.v (.fr (.list ((WR1 far ++ WR2 far).map prD))))) (some (.v (.ow (((BAD1 ++ BAD2).map pwD).map S.fr)))) (some (.v (.fr (pwD ((W.set a r).set c (R0 c ++ [m])))))) none none none none none none) := by
        rw [← wPS_toD]; rfl
      rw [e_fzS, hfz, apS_at rfl, e_frR]
      rw [show vf 11 (eL (some (.v (.fr Sx))) (some (.v (.fr (.list [.int d0, .int d1, .int d2, .int d3])))) (some (.v (.fr (.int (n : Nat))))) (some (.v (.ow ((W.map rD).map S.fr)))) (some (.v (.fr (.int (a : Nat))))) (some (.v (.fr (.str kp)))) (some (.v (.fr (.int (c : Nat))))) (some (.v (.fr (.int far)))) none (some (.v (.fr (.list ((WR1 far ++ WR2 far).map prD))))) (some (.v (.ow (((BAD1 ++ BAD2).map pwD).map S.fr)))) (some (.v (.fr (pwD ((W.set a r).set c (R0 c ++ [m])))))) none none none none none none) = .ok (pwD ((W.set a r).set c (R0 c ++ [m]))) from rfl, R.bind_ok, R.st_ok, if_pos (by rw [List.length_map, List.length_map, List.length_append, hB1, hB2]; decide)]
      have hap : ∀ x : List (List PM), (((BAD1 ++ BAD2) ++ [x]).map pwD).map S.fr = ((BAD1 ++ BAD2).map pwD).map S.fr ++ [S.fr (pwD x)] := fun x => by rw [List.map_append (l₁ := BAD1 ++ BAD2), List.map_append]; rfl
      rw [hB3 h1 c r m hc hrm, hap]
      rfl
    · refine ⟨(some (.v (.fr (.int (b : Nat))))), none, ?_⟩
      have cnd : t2 (vf 2) (cI 1) gtD (eL (some (.v (.fr Sx))) (some (.v (.fr (.list [.int d0, .int d1, .int d2, .int d3])))) (some (.v (.fr (.int (n : Nat))))) (some (.v (.ow ((W.map rD).map S.fr)))) (some (.v (.fr (.int (a : Nat))))) (some (.v (.fr (.str kp)))) (some (.v (.fr (.int (b : Nat))))) (some (.v (.fr (.int far)))) none (some (.v (.fr (.list ((WR1 far ++ WR2 far).map prD))))) (some (.v (.ow (((BAD1 ++ BAD2).map pwD).map S.fr)))) none none none none none none none) = .ok false := by
        have h2 : decide ((1 : Int) < ((n : Nat) : Int)) = false := decide_eq_false (by omega)
        simp -implicitDefEqProofs only [eL, e_t2, vf_s, vf_z, e_cI, R.bind_ok, gt_i, h2, tob_b]
      rw [e_ifS, cnd, R.st_ok, hB30 h1, List.append_nil]
      rfl
  obtain ⟨y6, y11, hmv⟩ := hmv
  refine sq_of hmv ?_
  have hfz : fzE (eL (some (.v (.fr Sx))) (some (.v (.fr (.list [.int d0, .int d1, .int d2, .int d3])))) (some (.v (.fr (.int (n : Nat))))) (some (.v (.ow ((W.map rD).map S.fr)))) (some (.v (.fr (.int (a : Nat))))) (some (.v (.fr (.str kp)))) y6 (some (.v (.fr (.int far)))) none (some (.v (.fr (.list ((WR1 far ++ WR2 far).map prD))))) (some (.v (.ow (((BAD1 ++ BAD2 ++ BAD3).map pwD).map S.fr)))) y11 none none none none none none) 10 = (eL (some (.v (.fr Sx))) (some (.v (.fr (.list [.int d0, .int d1, .int d2, .int d3])))) (some (.v (.fr (.int (n : Nat))))) (some (.v (.ow ((W.map rD).map S.fr)))) (some (.v (.fr (.int (a : Nat))))) (some (.v (.fr (.str kp)))) y6 (some (.v (.fr (.int far)))) none (some (.v (.fr (.list ((WR1 far ++ WR2 far).map prD))))) (some (.v (.fr (.list ((BAD1 ++ BAD2 ++ BAD3).map pwD))))) y11 none none none none none none) := by
    rw [← owfr ((BAD1 ++ BAD2 ++ BAD3).map pwD)]; rfl
  refine sq_of (e1 := (eL (some (.v (.fr Sx))) (some (.v (.fr (.list [.int d0, .int d1, .int d2, .int d3])))) (some (.v (.fr (.int (n : Nat))))) (some (.v (.ow ((W.map rD).map S.fr)))) (some (.v (.fr (.int (a : Nat))))) (some (.v (.fr (.str kp)))) y6 (some (.v (.fr (.int far)))) none (some (.v (.fr (.list ((WR1 far ++ WR2 far).map prD))))) (some (.v (.fr (.list ((BAD1 ++ BAD2 ++ BAD3).map pwD))))) y11 none none none none none none)) (by
    obtain ⟨ex, q1, q2⟩ := forF_at (b := setN 12) (T := LC) pwD (fun _ env => env = (eL (some (.v (.fr Sx))) (some (.v (.fr (.list [.int d0, .int d1, .int d2, .int d3])))) (some (.v (.fr (.int (n : Nat))))) (some (.v (.ow ((W.map rD).map S.fr)))) (some (.v (.fr (.int (a : Nat))))) (some (.v (.fr (.str kp)))) y6 (some (.v (.fr (.int far)))) none (some (.v (.fr (.list ((WR1 far ++ WR2 far).map prD))))) (some (.v (.fr (.list ((BAD1 ++ BAD2 ++ BAD3).map pwD))))) y11 none none none none none none)) (BAD1 ++ BAD2 ++ BAD3) 0 _ rfl (fun i x env hx he => by
      subst he
      have hx := List.mem_of_getElem? hx
      refine ⟨_, _, rfl, .inl ?_, rfl⟩
      unfold LC
      refine fnS_of (e1 := (eL (some (.v (.fr Sx))) (some (.v (.fr (.list [.int d0, .int d1, .int d2, .int d3])))) (some (.v (.fr (.int (n : Nat))))) (some (.v (.ow ((W.map rD).map S.fr)))) (some (.v (.fr (.int (a : Nat))))) (some (.v (.fr (.str kp)))) y6 (some (.v (.fr (.int far)))) none (some (.v (.fr (.list ((WR1 far ++ WR2 far).map prD))))) (some (.v (.fr (.list ((BAD1 ++ BAD2 ++ BAD3).map pwD))))) y11 (some (.v (.fr (pwD x)))) none none none none none)) ?_ rfl
      have e1 := rfbad x hx
      exact if_f (by simp -implicitDefEqProofs [eL, e1]) rfl)
    subst q2
    rw [e_fzS, hfz, e_fgS, e_forS]
    have ec : ∀ env : En, env = (eL (some (.v (.fr Sx))) (some (.v (.fr (.list [.int d0, .int d1, .int d2, .int d3])))) (some (.v (.fr (.int (n : Nat))))) (some (.v (.ow ((W.map rD).map S.fr)))) (some (.v (.fr (.int (a : Nat))))) (some (.v (.fr (.str kp)))) y6 (some (.v (.fr (.int far)))) none (some (.v (.fr (.list ((WR1 far ++ WR2 far).map prD))))) (some (.v (.fr (.list ((BAD1 ++ BAD2 ++ BAD3).map pwD))))) y11 none none none none none none) → (seqR (vf 10)) env = .ok ((BAD1 ++ BAD2 ++ BAD3).map pwD) := fun env he => by
      subst he
      rfl
    erw [ec _ rfl, R.st_ok]
    exact q1) ?_
  have h_full : ∀ env : En, env = (eL (some (.v (.fr Sx))) (some (.v (.fr (.list [.int d0, .int d1, .int d2, .int d3])))) (some (.v (.fr (.int (n : Nat))))) (some (.v (.ow ((W.map rD).map S.fr)))) (some (.v (.fr (.int (a : Nat))))) (some (.v (.fr (.str kp)))) y6 (some (.v (.fr (.int far)))) none (some (.v (.fr (.list ((WR1 far ++ WR2 far).map prD))))) (some (.v (.fr (.list ((BAD1 ++ BAD2 ++ BAD3).map pwD))))) y11 none none none none none none) → (unO (compR [4] (cal (consA (vf 2) nilA) rng1) (setN 4) yesT (frR (unO (compR [6] (cal (consA (vf 2) nilA) rng1) (setN 6) yesT (frR (tupR (consA (b2 (vf 4) (vf 6) subD) (consA (cI 1) nilA))))))))) env = .ok (pwD FU) := fun env he => by
    subst he
    have hin : ∀ i : Nat, i < n → ∀ env : En, env = (eL (some (.v (.fr Sx))) (some (.v (.fr (.list [.int d0, .int d1, .int d2, .int d3])))) (some (.v (.fr (.int (n : Nat))))) (some (.v (.ow ((W.map rD).map S.fr)))) (some (.v (.fr (.int (i : Nat))))) (some (.v (.fr (.str kp)))) none (some (.v (.fr (.int far)))) none (some (.v (.fr (.list ((WR1 far ++ WR2 far).map prD))))) (some (.v (.fr (.list ((BAD1 ++ BAD2 ++ BAD3).map pwD))))) y11 none none none none none none) → compR [6] (cal (consA (vf 2) nilA) rng1) (setN 6) yesT (frR (tupR (consA (b2 (vf 4) (vf 6) subD) (consA (cI 1) nilA)))) env = .ok (.ow ((List.range n).map fun j : Nat => .fr (pD (some ((i : Int) - j, 1))))) := fun i hi env he => by
      subst he
      exact comp_rng (n := n) (by simp -implicitDefEqProofs [eL]) (by omega) (fun j hj => by simp -implicitDefEqProofs [eL, pD])
    rw [e_unO, comp_rng (n := n) (g := fun i => .fr (rD ((List.range n).map fun j : Nat => some ((i : Int) - j, 1)))) (by simp -implicitDefEqProofs [eL]) (by omega) (fun i hi => by
      rw [e_frR, e_unO]
      erw [hin i hi _ rfl]
      rw [R.bind_ok, R.bind_ok, toD_ow, List.map_map]
      unfold rD
      rw [List.map_map]
      exact congrArg (fun x => DL.R.ok (S.fr (PyData.list x))) (List.map_congr_left fun k _ => toD_fr _))]
    rw [R.bind_ok, toPW, hFU]
  refine sq_of (e1 := (eL (some (.v (.fr Sx))) (some (.v (.fr (.list [.int d0, .int d1, .int d2, .int d3])))) (some (.v (.fr (.int (n : Nat))))) (some (.v (.ow ((W.map rD).map S.fr)))) (some (.v (.fr (.int (a : Nat))))) (some (.v (.fr (.str kp)))) y6 (some (.v (.fr (.int far)))) none (some (.v (.fr (.list ((WR1 far ++ WR2 far).map prD))))) (some (.v (.fr (.list ((BAD1 ++ BAD2 ++ BAD3).map pwD))))) y11 none (some (.v (.fr (pwD FU)))) none none none none)) (by rw [e_asS, h_full _ rfl, R.st_ok]; rfl) ?_
  have h_sides : ∀ env : En, env = (eL (some (.v (.fr Sx))) (some (.v (.fr (.list [.int d0, .int d1, .int d2, .int d3])))) (some (.v (.fr (.int (n : Nat))))) (some (.v (.ow ((W.map rD).map S.fr)))) (some (.v (.fr (.int (a : Nat))))) (some (.v (.fr (.str kp)))) y6 (some (.v (.fr (.int far)))) none (some (.v (.fr (.list ((WR1 far ++ WR2 far).map prD))))) (some (.v (.fr (.list ((BAD1 ++ BAD2 ++ BAD3).map pwD))))) y11 none (some (.v (.fr (pwD FU)))) none none none none) → (unO (compR [17] (cal (consA (vf 2) nilA) rng1) (setN 17) yesT (frR (b2 (unO (lstR (consA (cS ("late" : Str)) (consA (cS ("early" : Str)) nilA)))) (b2 (b2 (vf 7) (vf 17) shrD) (cI 1) andD) ixD)))) env = .ok (sidesD SS) := fun env he => by
    subst he
    rw [e_unO, comp_rng (n := n) (g := fun k => .fr (.str (sideS (sf k)))) (by simp -implicitDefEqProofs [eL]) (by omega) (fun k hk => by
      have e1 := hsf k
      have e2 : shrD (.int far) (.int (k : Nat)) = .ok (.int ((farN / 2 ^ k : Nat) : Int)) := by
        rw [shr_i _ _ (by omega), Int.toNat_natCast, hfarN]
        congr 2
      obtain ⟨mm, hmm⟩ : ∃ mm, farN / 2 ^ k = mm := ⟨_, rfl⟩
      rw [hmm] at e1 e2
      have e3 : andD (.int (mm : Nat)) (.int 1) = .ok (.int (mm % 2 : Nat)) := by rw [and_i, band1]
      obtain ⟨zz, hzz⟩ : ∃ zz, mm % 2 = zz := ⟨_, rfl⟩
      rw [hzz] at e1 e3
      simp -implicitDefEqProofs [-and_i, eL, e2, e3, e1])]
    rw [R.bind_ok, toD_ow, List.map_map, hSS]
    unfold sidesD
    rw [List.map_map]
    exact congrArg (fun x => DL.R.ok (PyData.list x)) (List.map_congr_left fun k _ => toD_fr _)
  refine sq_of (e1 := (eL (some (.v (.fr Sx))) (some (.v (.fr (.list [.int d0, .int d1, .int d2, .int d3])))) (some (.v (.fr (.int (n : Nat))))) (some (.v (.ow ((W.map rD).map S.fr)))) (some (.v (.fr (.int (a : Nat))))) (some (.v (.fr (.str kp)))) y6 (some (.v (.fr (.int far)))) none (some (.v (.fr (.list ((WR1 far ++ WR2 far).map prD))))) (some (.v (.fr (.list ((BAD1 ++ BAD2 ++ BAD3).map pwD))))) y11 none (some (.v (.fr (pwD FU)))) (some (.v (.fr (sidesD SS)))) none none none)) (by rw [e_asS, h_sides _ rfl, R.st_ok]; rfl) ?_
  refine sq_of (if_f (by simp -implicitDefEqProofs [eL, ckm]) rfl) ?_
  refine sq_of (e1 := (eL (some (.v (.fr Sx))) (some (.v (.fr (.list [.int d0, .int d1, .int d2, .int d3])))) (some (.v (.fr (.int (n : Nat))))) (some (.v (.ow ((W.map rD).map S.fr)))) (some (.v (.fr (.int (a : Nat))))) (some (.v (.fr (.str kp)))) y6 (some (.v (.fr (.int far)))) none (some (.v (.fr (.list ((WR1 far ++ WR2 far).map prD))))) (some (.v (.fr (.list ((BAD1 ++ BAD2 ++ BAD3).map pwD))))) y11 none (some (.v (.fr (pwD FU)))) (some (.v (.fr (sidesD SS)))) none none none)) (by
    obtain ⟨ex, q1, q2⟩ := forF_at (b := setN 15) (T := LW) PyData.str (fun _ env => env = (eL (some (.v (.fr Sx))) (some (.v (.fr (.list [.int d0, .int d1, .int d2, .int d3])))) (some (.v (.fr (.int (n : Nat))))) (some (.v (.ow ((W.map rD).map S.fr)))) (some (.v (.fr (.int (a : Nat))))) (some (.v (.fr (.str kp)))) y6 (some (.v (.fr (.int far)))) none (some (.v (.fr (.list ((WR1 far ++ WR2 far).map prD))))) (some (.v (.fr (.list ((BAD1 ++ BAD2 ++ BAD3).map pwD))))) y11 none (some (.v (.fr (pwD FU)))) (some (.v (.fr (sidesD SS)))) none none none)) WORDS 0 _ rfl (fun i x env hx he => by
      subst he
      have hx := List.mem_of_getElem? hx
      refine ⟨_, _, rfl, .inl ?_, rfl⟩
      show LW (eL (some (.v (.fr Sx))) (some (.v (.fr (.list [.int d0, .int d1, .int d2, .int d3])))) (some (.v (.fr (.int (n : Nat))))) (some (.v (.ow ((W.map rD).map S.fr)))) (some (.v (.fr (.int (a : Nat))))) (some (.v (.fr (.str kp)))) y6 (some (.v (.fr (.int far)))) none (some (.v (.fr (.list ((WR1 far ++ WR2 far).map prD))))) (some (.v (.fr (.list ((BAD1 ++ BAD2 ++ BAD3).map pwD))))) y11 none (some (.v (.fr (pwD FU)))) (some (.v (.fr (sidesD SS)))) (some (.v (.fr (.str x)))) none none) = .nx (eL (some (.v (.fr Sx))) (some (.v (.fr (.list [.int d0, .int d1, .int d2, .int d3])))) (some (.v (.fr (.int (n : Nat))))) (some (.v (.ow ((W.map rD).map S.fr)))) (some (.v (.fr (.int (a : Nat))))) (some (.v (.fr (.str kp)))) y6 (some (.v (.fr (.int far)))) none (some (.v (.fr (.list ((WR1 far ++ WR2 far).map prD))))) (some (.v (.fr (.list ((BAD1 ++ BAD2 ++ BAD3).map pwD))))) y11 none (some (.v (.fr (pwD FU)))) (some (.v (.fr (sidesD SS)))) none none none)
      unfold LW
      refine fnS_of (e1 := (eL (some (.v (.fr Sx))) (some (.v (.fr (.list [.int d0, .int d1, .int d2, .int d3])))) (some (.v (.fr (.int (n : Nat))))) (some (.v (.ow ((W.map rD).map S.fr)))) (some (.v (.fr (.int (a : Nat))))) (some (.v (.fr (.str kp)))) y6 (some (.v (.fr (.int far)))) none (some (.v (.fr (.list ((WR1 far ++ WR2 far).map prD))))) (some (.v (.fr (.list ((BAD1 ++ BAD2 ++ BAD3).map pwD))))) y11 none (some (.v (.fr (pwD FU)))) (some (.v (.fr (sidesD SS)))) (some (.v (.fr (.str x)))) none none)) ?_ rfl
      have e1 := hword x hx
      have e2 : (b2 (b2 (unO (slR (vf 14) noneO (someO (vf 4)) slcD)) (unO (lstR (consA (vf 15) nilA))) addD) (unO (slR (vf 14) (someO (b2 (vf 4) (cI 1) addD)) noneO slcD)) addD) (eL (some (.v (.fr Sx))) (some (.v (.fr (.list [.int d0, .int d1, .int d2, .int d3])))) (some (.v (.fr (.int (n : Nat))))) (some (.v (.ow ((W.map rD).map S.fr)))) (some (.v (.fr (.int (a : Nat))))) (some (.v (.fr (.str kp)))) y6 (some (.v (.fr (.int far)))) none (some (.v (.fr (.list ((WR1 far ++ WR2 far).map prD))))) (some (.v (.fr (.list ((BAD1 ++ BAD2 ++ BAD3).map pwD))))) y11 none (some (.v (.fr (pwD FU)))) (some (.v (.fr (sidesD SS)))) (some (.v (.fr (.str x)))) none none) = .ok (sidesD ((SS.take a ++ [x]) ++ SS.drop (a + 1))) := ad_ls (ad_ls (sl_to (xs := SS) (cd := PyData.str) (k := a) rfl rfl) (ls_one (cd := PyData.str) (x := x) rfl) (by simp; omega)) (sl_from (xs := SS) (cd := PyData.str) (k := a + 1) rfl rfl) (by simp; omega)
      obtain ⟨Zx, hZx⟩ : ∃ Z, Z = sidesD ((SS.take a ++ [x]) ++ SS.drop (a + 1)) := ⟨_, rfl⟩
      rw [← hZx] at e1 e2
      refine if_f ?_ rfl
      rw [e_notT, e_truR, e_unO, e_cal, e_consA, e_consA, e2]
      simp -implicitDefEqProofs [eL, e1])
    subst q2
    rw [e_fgS, e_forS]
    have ec : ∀ env : En, env = (eL (some (.v (.fr Sx))) (some (.v (.fr (.list [.int d0, .int d1, .int d2, .int d3])))) (some (.v (.fr (.int (n : Nat))))) (some (.v (.ow ((W.map rD).map S.fr)))) (some (.v (.fr (.int (a : Nat))))) (some (.v (.fr (.str kp)))) y6 (some (.v (.fr (.int far)))) none (some (.v (.fr (.list ((WR1 far ++ WR2 far).map prD))))) (some (.v (.fr (.list ((BAD1 ++ BAD2 ++ BAD3).map pwD))))) y11 none (some (.v (.fr (pwD FU)))) (some (.v (.fr (sidesD SS)))) none none none) → (seqR (unO (lstR (consA (cS ("Late" : Str)) (consA (cS ("early " : Str)) (consA (cS (" late" : Str)) (consA (cS ("earl" : Str)) (consA (cS ("lat" : Str)) (consA (cS ("latee" : Str)) (consA (cS ("" : Str)) (consA (cS ("e" : Str)) (consA (cS ("l" : Str)) (consA (cS ("earlylate" : Str)) (consA (cS ("early bird" : Str)) (consA (cS ("LATE" : Str)) (consA (cS ("none" : Str)) (consA (cS ("latE" : Str)) nilA))))))))))))))))) env = .ok (WORDS.map PyData.str) := fun env he => by
      subst he
      rfl
    erw [ec _ rfl, R.st_ok]
    exact q1) ?_
  have n_1 : unO (slR (vf 14) (someO (cI 1)) noneO slcD) (eL (some (.v (.fr Sx))) (some (.v (.fr (.list [.int d0, .int d1, .int d2, .int d3])))) (some (.v (.fr (.int (n : Nat))))) (some (.v (.ow ((W.map rD).map S.fr)))) (some (.v (.fr (.int (a : Nat))))) (some (.v (.fr (.str kp)))) y6 (some (.v (.fr (.int far)))) none (some (.v (.fr (.list ((WR1 far ++ WR2 far).map prD))))) (some (.v (.fr (.list ((BAD1 ++ BAD2 ++ BAD3).map pwD))))) y11 none (some (.v (.fr (pwD FU)))) (some (.v (.fr (sidesD SS)))) none none none) = .ok (sidesD (SS.drop 1)) := sl_from (cd := PyData.str) (xs := SS) (k := 1) rfl rfl
  have n_2 : b2 (vf 14) (unO (lstR (consA (cS ("late" : Str)) nilA))) addD (eL (some (.v (.fr Sx))) (some (.v (.fr (.list [.int d0, .int d1, .int d2, .int d3])))) (some (.v (.fr (.int (n : Nat))))) (some (.v (.ow ((W.map rD).map S.fr)))) (some (.v (.fr (.int (a : Nat))))) (some (.v (.fr (.str kp)))) y6 (some (.v (.fr (.int far)))) none (some (.v (.fr (.list ((WR1 far ++ WR2 far).map prD))))) (some (.v (.fr (.list ((BAD1 ++ BAD2 ++ BAD3).map pwD))))) y11 none (some (.v (.fr (pwD FU)))) (some (.v (.fr (sidesD SS)))) none none none) = .ok (sidesD (SS ++ [("late" : Str)])) := ad_ls (cd := PyData.str) (xs := SS) (ys := [("late" : Str)]) rfl (ls_one (cd := PyData.str) rfl) (by rw [SS_len]; simp; omega)
  have n_3 : b2 (unO (lstR (consA (unO (repR (lstR (consA cN nilA)) (vf 2))) nilA))) (unO (slR (vf 13) (someO (cI 1)) noneO slcD)) addD (eL (some (.v (.fr Sx))) (some (.v (.fr (.list [.int d0, .int d1, .int d2, .int d3])))) (some (.v (.fr (.int (n : Nat))))) (some (.v (.ow ((W.map rD).map S.fr)))) (some (.v (.fr (.int (a : Nat))))) (some (.v (.fr (.str kp)))) y6 (some (.v (.fr (.int far)))) none (some (.v (.fr (.list ((WR1 far ++ WR2 far).map prD))))) (some (.v (.fr (.list ((BAD1 ++ BAD2 ++ BAD3).map pwD))))) y11 none (some (.v (.fr (pwD FU)))) (some (.v (.fr (sidesD SS)))) none none none) = .ok (pwD ([List.replicate n (none : PM)] ++ FU.drop 1)) := ad_ls (cd := rD) (ls_one (cd := rD) (rep_ls (cd := pD) (x := none) (n := n) rfl rfl (by omega))) (sl_from (cd := rD) (xs := FU) (k := 1) rfl rfl) (by rw [List.length_drop, FU_len]; simp; omega)
  refine sq_of (if_f (orT_f (by
    rw [← hZ1] at n_1
    rw [e_notT, e_truR, e_unO, e_cal, e_consA, e_consA, n_1]
    simp -implicitDefEqProofs [eL, ns1]) (orT_f (by
    rw [e_notT, e_truR, e_unO, e_cal, e_consA, e_consA, n_2]
    simp -implicitDefEqProofs [eL, ns2]) (by
    rw [← hZ3] at n_3
    rw [e_notT, e_truR, e_unO, e_cal, e_consA, n_3]
    simp -implicitDefEqProofs [eL, ns3]))) rfl) ?_
  have z12 : unO (repR (lstR (consA (unO (repR (lstR (consA cN nilA)) (cI 12))) nilA)) (cI 12)) (eL (some (.v (.fr Sx))) (some (.v (.fr (.list [.int d0, .int d1, .int d2, .int d3])))) (some (.v (.fr (.int (n : Nat))))) (some (.v (.ow ((W.map rD).map S.fr)))) (some (.v (.fr (.int (a : Nat))))) (some (.v (.fr (.str kp)))) y6 (some (.v (.fr (.int far)))) none (some (.v (.fr (.list ((WR1 far ++ WR2 far).map prD))))) (some (.v (.fr (.list ((BAD1 ++ BAD2 ++ BAD3).map pwD))))) y11 none (some (.v (.fr (pwD FU)))) (some (.v (.fr (sidesD SS)))) none none none) = .ok (pwD (List.replicate 12 (List.replicate 12 (none : PM)))) := rep_ls (cd := rD) (n := 12) (rep_ls (cd := pD) (x := none) (n := 12) rfl rfl (by decide)) rfl (by decide)
  have e12 := checkg (List.replicate 12 (List.replicate 12 (none : PM)))
  rw [show okW (List.replicate 12 (List.replicate 12 (none : PM))) = true from by decide] at e12
  have e12 : g_check_work [pwD (List.replicate 12 (List.replicate 12 (none : PM)))] = .ok (.fr .none) := e12
  have z13 : unO (cal (consA (unO (repR (lstR (consA (unO (repR (lstR (consA cN nilA)) (cI 12))) nilA)) (cI 12))) nilA) g_check_work) (eL (some (.v (.fr Sx))) (some (.v (.fr (.list [.int d0, .int d1, .int d2, .int d3])))) (some (.v (.fr (.int (n : Nat))))) (some (.v (.ow ((W.map rD).map S.fr)))) (some (.v (.fr (.int (a : Nat))))) (some (.v (.fr (.str kp)))) y6 (some (.v (.fr (.int far)))) none (some (.v (.fr (.list ((WR1 far ++ WR2 far).map prD))))) (some (.v (.fr (.list ((BAD1 ++ BAD2 ++ BAD3).map pwD))))) y11 none (some (.v (.fr (pwD FU)))) (some (.v (.fr (sidesD SS)))) none none none) = .ok .none := by
    rw [e_unO, e_cal, e_consA, z12, R.bind_ok, e_nilA, R.bind_ok, R.bind_ok, e12, R.bind_ok, toD_fr]
  rw [e_rtS, e_b2, z13]; rfl
end LX
namespace LX
open PySem PySem.Spec PyProof.Rows L2 DL
theorem good : ∀ ns : List Int, ns.length ≤ 63 → (∀ i ∈ ns, Builtin.Int.intBits i ≤ 1048576) → g_law [.list (ns.map .int)] = .ok (.fr (.bool true)) := fun ns h _ => good1 ns h
set_option maxHeartbeats 8000000 in
theorem all_mk {w : World} {K : PySem.W.Frag} {h : Heap} {mg : Str → Option Value} {fa : Addr} (X : K.In h) (G : h.Ns mainGlobals mg) (hfa : mg "law" = some (.ref fa))
    {t_GREATEST_PART : Tok}
    {t_MOST_EVENTS : Tok}
    {t_LATE : Tok}
    {t_EARLY : Tok}
    {C_BadWork : Addr}
    {C_LateError : Addr}
    {C_OutOfRange : Addr}
    {C_NoRate : Addr}
    {f__law_draws : Addr} {od__law_draws an__law_draws : Option Addr} {sl__law_draws : Array (Option Value)} {oc__law_draws kV__law_draws dc__law_draws pm__law_draws cd__law_draws ct__law_draws : Value}
    {f__law_cell : Addr} {od__law_cell an__law_cell : Option Addr} {sl__law_cell : Array (Option Value)} {oc__law_cell kV__law_cell dc__law_cell pm__law_cell cd__law_cell ct__law_cell : Value}
    {f__law_reducible : Addr} {od__law_reducible an__law_reducible : Option Addr} {sl__law_reducible : Array (Option Value)} {oc__law_reducible kV__law_reducible dc__law_reducible pm__law_reducible cd__law_reducible ct__law_reducible : Value}
    {f_is_fraction : Addr} {od_is_fraction an_is_fraction : Option Addr} {sl_is_fraction : Array (Option Value)} {oc_is_fraction kV_is_fraction dc_is_fraction pm_is_fraction cd_is_fraction ct_is_fraction : Value}
    {f__is_valid_fraction : Addr} {od__is_valid_fraction an__is_valid_fraction : Option Addr} {sl__is_valid_fraction : Array (Option Value)} {oc__is_valid_fraction kV__is_valid_fraction dc__is_valid_fraction pm__is_valid_fraction cd__is_valid_fraction ct__is_valid_fraction : Value}
    {f_check_work : Addr} {od_check_work an_check_work : Option Addr} {sl_check_work : Array (Option Value)} {oc_check_work kV_check_work dc_check_work pm_check_work cd_check_work ct_check_work : Value}
    {f_is_less : Addr} {od_is_less an_is_less : Option Addr} {sl_is_less : Array (Option Value)} {oc_is_less kV_is_less dc_is_less pm_is_less cd_is_less ct_is_less : Value}
    {f_later : Addr} {od_later an_later : Option Addr} {sl_later : Array (Option Value)} {oc_later kV_later dc_later pm_later cd_later ct_later : Value}
    {f_latest : Addr} {od_latest an_latest : Option Addr} {sl_latest : Array (Option Value)} {oc_latest kV_latest dc_latest pm_latest cd_latest ct_latest : Value}
    {f_has_empty_row : Addr} {od_has_empty_row an_has_empty_row : Option Addr} {sl_has_empty_row : Array (Option Value)} {oc_has_empty_row kV_has_empty_row dc_has_empty_row pm_has_empty_row ct_has_empty_row : Value}
    {C_has_empty_row P_has_empty_row : Addr} {ox_has_empty_row : Value} {oy_has_empty_row : Option Addr} {vs_has_empty_row : Array Value} {sx_has_empty_row : Array (Option Value)}
    {f_check_mixed : Addr} {od_check_mixed an_check_mixed : Option Addr} {sl_check_mixed : Array (Option Value)} {oc_check_mixed kV_check_mixed dc_check_mixed pm_check_mixed cd_check_mixed ct_check_mixed : Value}
    {f_Desk : Addr} {od_Desk an_Desk : Option Addr} {sl_Desk : Array (Option Value)} {oc_Desk kV_Desk dc_Desk pm_Desk cd_Desk ct_Desk : Value}
    {CC_Desk : Addr}
    {f__law_refused : Addr} {od__law_refused an__law_refused : Option Addr} {sl__law_refused : Array (Option Value)} {oc__law_refused kV__law_refused dc__law_refused pm__law_refused cd__law_refused ct__law_refused : Value}
    {f__law_no_sides : Addr} {od__law_no_sides an__law_no_sides : Option Addr} {sl__law_no_sides : Array (Option Value)} {oc__law_no_sides kV__law_no_sides dc__law_no_sides pm__law_no_sides cd__law_no_sides ct__law_no_sides : Value}
    {f__law_gcd : Addr} {od__law_gcd an__law_gcd : Option Addr} {sl__law_gcd : Array (Option Value)} {oc__law_gcd kV__law_gcd dc__law_gcd pm__law_gcd cd__law_gcd ct__law_gcd : Value}
    {f__law_fraction : Addr} {od__law_fraction an__law_fraction : Option Addr} {sl__law_fraction : Array (Option Value)} {oc__law_fraction kV__law_fraction dc__law_fraction pm__law_fraction cd__law_fraction ct__law_fraction : Value}
    {f__law_moment : Addr} {od__law_moment an__law_moment : Option Addr} {sl__law_moment : Array (Option Value)} {oc__law_moment kV__law_moment dc__law_moment pm__law_moment cd__law_moment ct__law_moment : Value}
    {f__law_with : Addr} {od__law_with an__law_with : Option Addr} {sl__law_with : Array (Option Value)} {oc__law_with kV__law_with dc__law_with pm__law_with cd__law_with ct__law_with : Value}
    {f_law : Addr} {od_law an_law : Option Addr} {sl_law : Array (Option Value)} {oc_law kV_law dc_law pm_law cd_law ct_law : Value}
    (z_int : PySem.W.nsIn K mainGlobals "int" = some none)
    (z_abs : PySem.W.nsIn K mainGlobals "abs" = some none)
    (z_len : PySem.W.nsIn K mainGlobals "len" = some none)
    (z_any : PySem.W.nsIn K mainGlobals "any" = some none)
    (z_repr : PySem.W.nsIn K mainGlobals "repr" = some none)
    (z_isinstance : PySem.W.nsIn K mainGlobals "isinstance" = some none)
    (z_ValueError : PySem.W.nsIn K mainGlobals "ValueError" = some none)
    (z_range : PySem.W.nsIn K mainGlobals "range" = some none)
    (z_list : PySem.W.nsIn K mainGlobals "list" = some none)
    (z_gcd : PySem.W.nsIn K mainGlobals "gcd" = some (some (.builtin "math.gcd")))
    (z_GREATEST_PART : PySem.W.nsIn K mainGlobals "GREATEST_PART" = some (some (.int 1000000 t_GREATEST_PART)))
    (z_MOST_EVENTS : PySem.W.nsIn K mainGlobals "MOST_EVENTS" = some (some (.int 12 t_MOST_EVENTS)))
    (z_LATE : PySem.W.nsIn K mainGlobals "LATE" = some (some (.str ("late" : Str) t_LATE)))
    (z_EARLY : PySem.W.nsIn K mainGlobals "EARLY" = some (some (.str ("early" : Str) t_EARLY)))
    (ea_BadWork : PySem.W.nsIn K mainGlobals "BadWork" = some (some (.ref C_BadWork)))
    (ex_BadWork : PySem.W.excIn K C_BadWork [.type "ValueError", .type "Exception", .type "BaseException", .type "object"] "ValueError.__new__" = true)
    (ek_BadWork : PySem.W.keepIn K (.ref C_BadWork) = true)
    (eb_BadWork : PySem.W.subIn K (.ref C_BadWork) (.type "BaseException") = some true)
    (et_BadWork : PySem.W.typeIn K (.ref C_BadWork) = some (.type "type"))
    (ei_BadWork : PySem.W.isClsIn K C_BadWork = true)
    (eg_BadWork : PySem.W.findIn K (.ref C_BadWork) "__getattribute__" = some (some (.builtin "BaseException.__getattribute__")))
    (ek2_BadWork : PySem.W.findIn K (.ref C_BadWork) "__getattr__" = some none)
    (ed_BadWork : PySem.W.hasDictIn K C_BadWork = true)
    (ec_BadWork : PySem.W.findIn K (.ref C_BadWork) "__class__" = some (some (.builtin "object.__class__")))
    (em_BadWork : PySem.W.mroIn K C_BadWork (.type "object") = some true)
    (ea_LateError : PySem.W.nsIn K mainGlobals "LateError" = some (some (.ref C_LateError)))
    (ex_LateError : PySem.W.excIn K C_LateError [.type "ValueError", .type "Exception", .type "BaseException", .type "object"] "ValueError.__new__" = true)
    (ek_LateError : PySem.W.keepIn K (.ref C_LateError) = true)
    (eb_LateError : PySem.W.subIn K (.ref C_LateError) (.type "BaseException") = some true)
    (et_LateError : PySem.W.typeIn K (.ref C_LateError) = some (.type "type"))
    (ei_LateError : PySem.W.isClsIn K C_LateError = true)
    (eg_LateError : PySem.W.findIn K (.ref C_LateError) "__getattribute__" = some (some (.builtin "BaseException.__getattribute__")))
    (ek2_LateError : PySem.W.findIn K (.ref C_LateError) "__getattr__" = some none)
    (ed_LateError : PySem.W.hasDictIn K C_LateError = true)
    (ec_LateError : PySem.W.findIn K (.ref C_LateError) "__class__" = some (some (.builtin "object.__class__")))
    (em_LateError : PySem.W.mroIn K C_LateError (.type "object") = some true)
    (ea_OutOfRange : PySem.W.nsIn K mainGlobals "OutOfRange" = some (some (.ref C_OutOfRange)))
    (ex_OutOfRange : PySem.W.excIn K C_OutOfRange [.type "ValueError", .type "Exception", .type "BaseException", .type "object"] "ValueError.__new__" = true)
    (ek_OutOfRange : PySem.W.keepIn K (.ref C_OutOfRange) = true)
    (eb_OutOfRange : PySem.W.subIn K (.ref C_OutOfRange) (.type "BaseException") = some true)
    (et_OutOfRange : PySem.W.typeIn K (.ref C_OutOfRange) = some (.type "type"))
    (ei_OutOfRange : PySem.W.isClsIn K C_OutOfRange = true)
    (eg_OutOfRange : PySem.W.findIn K (.ref C_OutOfRange) "__getattribute__" = some (some (.builtin "BaseException.__getattribute__")))
    (ek2_OutOfRange : PySem.W.findIn K (.ref C_OutOfRange) "__getattr__" = some none)
    (ed_OutOfRange : PySem.W.hasDictIn K C_OutOfRange = true)
    (ec_OutOfRange : PySem.W.findIn K (.ref C_OutOfRange) "__class__" = some (some (.builtin "object.__class__")))
    (em_OutOfRange : PySem.W.mroIn K C_OutOfRange (.type "object") = some true)
    (ea_NoRate : PySem.W.nsIn K mainGlobals "NoRate" = some (some (.ref C_NoRate)))
    (ex_NoRate : PySem.W.excIn K C_NoRate [.type "ValueError", .type "Exception", .type "BaseException", .type "object"] "ValueError.__new__" = true)
    (ek_NoRate : PySem.W.keepIn K (.ref C_NoRate) = true)
    (eb_NoRate : PySem.W.subIn K (.ref C_NoRate) (.type "BaseException") = some true)
    (et_NoRate : PySem.W.typeIn K (.ref C_NoRate) = some (.type "type"))
    (ei_NoRate : PySem.W.isClsIn K C_NoRate = true)
    (eg_NoRate : PySem.W.findIn K (.ref C_NoRate) "__getattribute__" = some (some (.builtin "BaseException.__getattribute__")))
    (ek2_NoRate : PySem.W.findIn K (.ref C_NoRate) "__getattr__" = some none)
    (ed_NoRate : PySem.W.hasDictIn K C_NoRate = true)
    (ec_NoRate : PySem.W.findIn K (.ref C_NoRate) "__class__" = some (some (.builtin "object.__class__")))
    (em_NoRate : PySem.W.mroIn K C_NoRate (.type "object") = some true)
    (es : PySem.W.specialIn K (.builtin "object.__class__") "__get__" = some (some (.builtin "getset_descriptor.__get__")))
    (eu : PySem.W.takesIn K (.builtin "object.__class__") = some true)
    (s_LateError_BadWork : PySem.W.subIn K (.ref C_LateError) (.ref C_BadWork) = some false)
    (s_BadWork_BadWork : PySem.W.subIn K (.ref C_BadWork) (.ref C_BadWork) = some true)
    (s_OutOfRange_BadWork : PySem.W.subIn K (.ref C_OutOfRange) (.ref C_BadWork) = some false)
    (s_NoRate_BadWork : PySem.W.subIn K (.ref C_NoRate) (.ref C_BadWork) = some false)
    (s_BadWork_NoRate : PySem.W.subIn K (.ref C_BadWork) (.ref C_NoRate) = some false)
    (s_NoRate_NoRate : PySem.W.subIn K (.ref C_NoRate) (.ref C_NoRate) = some true)
    (s_BadWork_OutOfRange : PySem.W.subIn K (.ref C_BadWork) (.ref C_OutOfRange) = some false)
    (s_OutOfRange_OutOfRange : PySem.W.subIn K (.ref C_OutOfRange) (.ref C_OutOfRange) = some true)
    (s_BadWork_ValueError : PySem.W.subIn K (.ref C_BadWork) (.type "ValueError") = some true)
    (s_BadWork_LateError : PySem.W.subIn K (.ref C_BadWork) (.ref C_LateError) = some true)
    (s_LateError_LateError : PySem.W.subIn K (.ref C_LateError) (.ref C_LateError) = some true)
    (a__law_draws : PySem.W.nsIn K mainGlobals "_law_draws" = some (some (.ref f__law_draws)))
    (l__law_draws : K.lookup f__law_draws = some ⟨oc__law_draws, od__law_draws, .func (PySem.W.fnOf "_law_draws" "_law_draws" (defArgs s__law_draws) (defBody s__law_draws) (defScope s__law_draws) .none kV__law_draws dc__law_draws pm__law_draws an__law_draws cd__law_draws ct__law_draws), sl__law_draws⟩)
    (c__law_draws' : PySem.W.codeIn K cd__law_draws "_law_draws" = true)
    (k__law_draws : PySem.W.keepIn K (.ref f__law_draws) = true)
    (a__law_cell : PySem.W.nsIn K mainGlobals "_law_cell" = some (some (.ref f__law_cell)))
    (l__law_cell : K.lookup f__law_cell = some ⟨oc__law_cell, od__law_cell, .func (PySem.W.fnOf "_law_cell" "_law_cell" (defArgs s__law_cell) (defBody s__law_cell) (defScope s__law_cell) .none kV__law_cell dc__law_cell pm__law_cell an__law_cell cd__law_cell ct__law_cell), sl__law_cell⟩)
    (c__law_cell' : PySem.W.codeIn K cd__law_cell "_law_cell" = true)
    (k__law_cell : PySem.W.keepIn K (.ref f__law_cell) = true)
    (a__law_reducible : PySem.W.nsIn K mainGlobals "_law_reducible" = some (some (.ref f__law_reducible)))
    (l__law_reducible : K.lookup f__law_reducible = some ⟨oc__law_reducible, od__law_reducible, .func (PySem.W.fnOf "_law_reducible" "_law_reducible" (defArgs s__law_reducible) (defBody s__law_reducible) (defScope s__law_reducible) .none kV__law_reducible dc__law_reducible pm__law_reducible an__law_reducible cd__law_reducible ct__law_reducible), sl__law_reducible⟩)
    (c__law_reducible' : PySem.W.codeIn K cd__law_reducible "_law_reducible" = true)
    (k__law_reducible : PySem.W.keepIn K (.ref f__law_reducible) = true)
    (a_is_fraction : PySem.W.nsIn K mainGlobals "is_fraction" = some (some (.ref f_is_fraction)))
    (l_is_fraction : K.lookup f_is_fraction = some ⟨oc_is_fraction, od_is_fraction, .func (PySem.W.fnOf "is_fraction" "is_fraction" (defArgs s_is_fraction) (defBody s_is_fraction) (defScope s_is_fraction) .none kV_is_fraction dc_is_fraction pm_is_fraction an_is_fraction cd_is_fraction ct_is_fraction), sl_is_fraction⟩)
    (c_is_fraction' : PySem.W.codeIn K cd_is_fraction "is_fraction" = true)
    (k_is_fraction : PySem.W.keepIn K (.ref f_is_fraction) = true)
    (a__is_valid_fraction : PySem.W.nsIn K mainGlobals "_is_valid_fraction" = some (some (.ref f__is_valid_fraction)))
    (l__is_valid_fraction : K.lookup f__is_valid_fraction = some ⟨oc__is_valid_fraction, od__is_valid_fraction, .func (PySem.W.fnOf "_is_valid_fraction" "_is_valid_fraction" (defArgs s__is_valid_fraction) (defBody s__is_valid_fraction) (defScope s__is_valid_fraction) .none kV__is_valid_fraction dc__is_valid_fraction pm__is_valid_fraction an__is_valid_fraction cd__is_valid_fraction ct__is_valid_fraction), sl__is_valid_fraction⟩)
    (c__is_valid_fraction' : PySem.W.codeIn K cd__is_valid_fraction "_is_valid_fraction" = true)
    (k__is_valid_fraction : PySem.W.keepIn K (.ref f__is_valid_fraction) = true)
    (a_check_work : PySem.W.nsIn K mainGlobals "check_work" = some (some (.ref f_check_work)))
    (l_check_work : K.lookup f_check_work = some ⟨oc_check_work, od_check_work, .func (PySem.W.fnOf "check_work" "check_work" (defArgs s_check_work) (defBody s_check_work) (defScope s_check_work) .none kV_check_work dc_check_work pm_check_work an_check_work cd_check_work ct_check_work), sl_check_work⟩)
    (c_check_work' : PySem.W.codeIn K cd_check_work "check_work" = true)
    (k_check_work : PySem.W.keepIn K (.ref f_check_work) = true)
    (a_is_less : PySem.W.nsIn K mainGlobals "is_less" = some (some (.ref f_is_less)))
    (l_is_less : K.lookup f_is_less = some ⟨oc_is_less, od_is_less, .func (PySem.W.fnOf "is_less" "is_less" (defArgs s_is_less) (defBody s_is_less) (defScope s_is_less) .none kV_is_less dc_is_less pm_is_less an_is_less cd_is_less ct_is_less), sl_is_less⟩)
    (c_is_less' : PySem.W.codeIn K cd_is_less "is_less" = true)
    (k_is_less : PySem.W.keepIn K (.ref f_is_less) = true)
    (a_later : PySem.W.nsIn K mainGlobals "later" = some (some (.ref f_later)))
    (l_later : K.lookup f_later = some ⟨oc_later, od_later, .func (PySem.W.fnOf "later" "later" (defArgs s_later) (defBody s_later) (defScope s_later) .none kV_later dc_later pm_later an_later cd_later ct_later), sl_later⟩)
    (c_later' : PySem.W.codeIn K cd_later "later" = true)
    (k_later : PySem.W.keepIn K (.ref f_later) = true)
    (a_latest : PySem.W.nsIn K mainGlobals "latest" = some (some (.ref f_latest)))
    (l_latest : K.lookup f_latest = some ⟨oc_latest, od_latest, .func (PySem.W.fnOf "latest" "latest" (defArgs s_latest) (defBody s_latest) (defScope s_latest) .none kV_latest dc_latest pm_latest an_latest cd_latest ct_latest), sl_latest⟩)
    (c_latest' : PySem.W.codeIn K cd_latest "latest" = true)
    (k_latest : PySem.W.keepIn K (.ref f_latest) = true)
    (a_has_empty_row : PySem.W.nsIn K mainGlobals "has_empty_row" = some (some (.ref f_has_empty_row)))
    (l_has_empty_row : K.lookup f_has_empty_row = some ⟨oc_has_empty_row, od_has_empty_row, .func (PySem.W.fnOf "has_empty_row" "has_empty_row" (defArgs s_has_empty_row) (defBody s_has_empty_row) (defScope s_has_empty_row) .none kV_has_empty_row dc_has_empty_row pm_has_empty_row an_has_empty_row (.ref C_has_empty_row) ct_has_empty_row), sl_has_empty_row⟩)
    (c_has_empty_row' : PySem.W.codeIn K (.ref C_has_empty_row) "has_empty_row" = true)
    (lc_has_empty_row : K.lookup C_has_empty_row = some ⟨ox_has_empty_row, oy_has_empty_row, .fields vs_has_empty_row, sx_has_empty_row⟩)
    (vp_has_empty_row : vs_has_empty_row[11]? = some (.ref P_has_empty_row))
    (tb_has_empty_row : PySem.W.tabIn K "has_empty_row" = some (C_has_empty_row, P_has_empty_row) → PySem.W.CodeHd h C_has_empty_row P_has_empty_row ∧ h.get? P_has_empty_row = some (PySem.W.tabObj #[]))
    (k_has_empty_row : PySem.W.keepIn K (.ref f_has_empty_row) = true)
    (a_check_mixed : PySem.W.nsIn K mainGlobals "check_mixed" = some (some (.ref f_check_mixed)))
    (l_check_mixed : K.lookup f_check_mixed = some ⟨oc_check_mixed, od_check_mixed, .func (PySem.W.fnOf "check_mixed" "check_mixed" (defArgs s_check_mixed) (defBody s_check_mixed) (defScope s_check_mixed) .none kV_check_mixed dc_check_mixed pm_check_mixed an_check_mixed cd_check_mixed ct_check_mixed), sl_check_mixed⟩)
    (c_check_mixed' : PySem.W.codeIn K cd_check_mixed "check_mixed" = true)
    (k_check_mixed : PySem.W.keepIn K (.ref f_check_mixed) = true)
    (a_Desk : PySem.W.nsIn K mainGlobals "Desk" = some (some (.ref CC_Desk)))
    (mk_Desk : PySem.W.makesIn K CC_Desk = true)
    (mi_Desk : PySem.W.findIn K (.ref CC_Desk) "__init__" = some (some (.ref f_Desk)))
    (mf_Desk : PySem.W.isFn K (.ref f_Desk) = true)
    (mq_Desk : PySem.W.keepIn K (.ref CC_Desk) = true)
    (l_Desk : K.lookup f_Desk = some ⟨oc_Desk, od_Desk, .func (PySem.W.fnOf "__init__" "Desk.__init__" (defArgs s_Desk) (defBody s_Desk) (defScope s_Desk) .none kV_Desk dc_Desk pm_Desk an_Desk cd_Desk ct_Desk), sl_Desk⟩)
    (c_Desk' : PySem.W.codeIn K cd_Desk "Desk.__init__" = true)
    (k_Desk : PySem.W.keepIn K (.ref f_Desk) = true)
    (a__law_refused : PySem.W.nsIn K mainGlobals "_law_refused" = some (some (.ref f__law_refused)))
    (l__law_refused : K.lookup f__law_refused = some ⟨oc__law_refused, od__law_refused, .func (PySem.W.fnOf "_law_refused" "_law_refused" (defArgs s__law_refused) (defBody s__law_refused) (defScope s__law_refused) .none kV__law_refused dc__law_refused pm__law_refused an__law_refused cd__law_refused ct__law_refused), sl__law_refused⟩)
    (c__law_refused' : PySem.W.codeIn K cd__law_refused "_law_refused" = true)
    (k__law_refused : PySem.W.keepIn K (.ref f__law_refused) = true)
    (a__law_no_sides : PySem.W.nsIn K mainGlobals "_law_no_sides" = some (some (.ref f__law_no_sides)))
    (l__law_no_sides : K.lookup f__law_no_sides = some ⟨oc__law_no_sides, od__law_no_sides, .func (PySem.W.fnOf "_law_no_sides" "_law_no_sides" (defArgs s__law_no_sides) (defBody s__law_no_sides) (defScope s__law_no_sides) .none kV__law_no_sides dc__law_no_sides pm__law_no_sides an__law_no_sides cd__law_no_sides ct__law_no_sides), sl__law_no_sides⟩)
    (c__law_no_sides' : PySem.W.codeIn K cd__law_no_sides "_law_no_sides" = true)
    (k__law_no_sides : PySem.W.keepIn K (.ref f__law_no_sides) = true)
    (a__law_gcd : PySem.W.nsIn K mainGlobals "_law_gcd" = some (some (.ref f__law_gcd)))
    (l__law_gcd : K.lookup f__law_gcd = some ⟨oc__law_gcd, od__law_gcd, .func (PySem.W.fnOf "_law_gcd" "_law_gcd" (defArgs s__law_gcd) (defBody s__law_gcd) (defScope s__law_gcd) .none kV__law_gcd dc__law_gcd pm__law_gcd an__law_gcd cd__law_gcd ct__law_gcd), sl__law_gcd⟩)
    (c__law_gcd' : PySem.W.codeIn K cd__law_gcd "_law_gcd" = true)
    (k__law_gcd : PySem.W.keepIn K (.ref f__law_gcd) = true)
    (a__law_fraction : PySem.W.nsIn K mainGlobals "_law_fraction" = some (some (.ref f__law_fraction)))
    (l__law_fraction : K.lookup f__law_fraction = some ⟨oc__law_fraction, od__law_fraction, .func (PySem.W.fnOf "_law_fraction" "_law_fraction" (defArgs s__law_fraction) (defBody s__law_fraction) (defScope s__law_fraction) .none kV__law_fraction dc__law_fraction pm__law_fraction an__law_fraction cd__law_fraction ct__law_fraction), sl__law_fraction⟩)
    (c__law_fraction' : PySem.W.codeIn K cd__law_fraction "_law_fraction" = true)
    (k__law_fraction : PySem.W.keepIn K (.ref f__law_fraction) = true)
    (a__law_moment : PySem.W.nsIn K mainGlobals "_law_moment" = some (some (.ref f__law_moment)))
    (l__law_moment : K.lookup f__law_moment = some ⟨oc__law_moment, od__law_moment, .func (PySem.W.fnOf "_law_moment" "_law_moment" (defArgs s__law_moment) (defBody s__law_moment) (defScope s__law_moment) .none kV__law_moment dc__law_moment pm__law_moment an__law_moment cd__law_moment ct__law_moment), sl__law_moment⟩)
    (c__law_moment' : PySem.W.codeIn K cd__law_moment "_law_moment" = true)
    (k__law_moment : PySem.W.keepIn K (.ref f__law_moment) = true)
    (a__law_with : PySem.W.nsIn K mainGlobals "_law_with" = some (some (.ref f__law_with)))
    (l__law_with : K.lookup f__law_with = some ⟨oc__law_with, od__law_with, .func (PySem.W.fnOf "_law_with" "_law_with" (defArgs s__law_with) (defBody s__law_with) (defScope s__law_with) .none kV__law_with dc__law_with pm__law_with an__law_with cd__law_with ct__law_with), sl__law_with⟩)
    (c__law_with' : PySem.W.codeIn K cd__law_with "_law_with" = true)
    (k__law_with : PySem.W.keepIn K (.ref f__law_with) = true)
    (a_law : PySem.W.nsIn K mainGlobals "law" = some (some (.ref f_law)))
    (l_law : K.lookup f_law = some ⟨oc_law, od_law, .func (PySem.W.fnOf "law" "law" (defArgs s_law) (defBody s_law) (defScope s_law) .none kV_law dc_law pm_law an_law cd_law ct_law), sl_law⟩)
    (c_law' : PySem.W.codeIn K cd_law "law" = true)
    (k_law : PySem.W.keepIn K (.ref f_law) = true)
    (nt : PySem.W.noTabs K = true)
    : ∃ (fd : FuncData) (cs : List (Addr × Addr)), (∀ p ∈ cs, h.get? p.2 = some { cls := .none, data := .fields #[] }) ∧ (∀ p ∈ cs, K.lookup p.2 = none) ∧ (∀ p ∈ cs, PySem.W.CodeHd h p.1 p.2) ∧ (∀ (s : Shared) (u : Value), BindsTo s fd ⟨[u], []⟩ [("script", u)]) ∧ ∀ base : Heap, Mod K mg base → (∀ p ∈ cs, GxR.TabB base mg p.1 p.2) → @FnG ⟨cs.map fun q => q.2⟩ PySem.Challenge.rw_latelaw_k03_works_checked.prog w K mg base 8 fa fd ["script"] g_law := by
  have E_BadWork : ErA K mg "BadWork" C_BadWork := ⟨⟨PySem.W.mg_of X G ea_BadWork, ⟨_, ex_BadWork, rfl⟩, ek_BadWork, eb_BadWork, et_BadWork⟩, ei_BadWork, ⟨eg_BadWork, ek2_BadWork, eb_BadWork, ed_BadWork, ec_BadWork, es, eu, em_BadWork⟩⟩
  have E_LateError : ErA K mg "LateError" C_LateError := ⟨⟨PySem.W.mg_of X G ea_LateError, ⟨_, ex_LateError, rfl⟩, ek_LateError, eb_LateError, et_LateError⟩, ei_LateError, ⟨eg_LateError, ek2_LateError, eb_LateError, ed_LateError, ec_LateError, es, eu, em_LateError⟩⟩
  have E_OutOfRange : ErA K mg "OutOfRange" C_OutOfRange := ⟨⟨PySem.W.mg_of X G ea_OutOfRange, ⟨_, ex_OutOfRange, rfl⟩, ek_OutOfRange, eb_OutOfRange, et_OutOfRange⟩, ei_OutOfRange, ⟨eg_OutOfRange, ek2_OutOfRange, eb_OutOfRange, ed_OutOfRange, ec_OutOfRange, es, eu, em_OutOfRange⟩⟩
  have E_NoRate : ErA K mg "NoRate" C_NoRate := ⟨⟨PySem.W.mg_of X G ea_NoRate, ⟨_, ex_NoRate, rfl⟩, ek_NoRate, eb_NoRate, et_NoRate⟩, ei_NoRate, ⟨eg_NoRate, ek2_NoRate, eb_NoRate, ed_NoRate, ec_NoRate, es, eu, em_NoRate⟩⟩
  have GG : Gl K mg := {
    b_int := PySem.W.mg_none_of X G z_int
    b_abs := PySem.W.mg_none_of X G z_abs
    b_len := PySem.W.mg_none_of X G z_len
    b_any := PySem.W.mg_none_of X G z_any
    b_repr := PySem.W.mg_none_of X G z_repr
    b_isinstance := PySem.W.mg_none_of X G z_isinstance
    b_ValueError := PySem.W.mg_none_of X G z_ValueError
    b_range := PySem.W.mg_none_of X G z_range
    b_list := PySem.W.mg_none_of X G z_list
    m_gcd := PySem.W.mg_of X G z_gcd
    c_GREATEST_PART := ⟨_, PySem.W.mg_of X G z_GREATEST_PART⟩
    c_MOST_EVENTS := ⟨_, PySem.W.mg_of X G z_MOST_EVENTS⟩
    c_LATE := ⟨_, PySem.W.mg_of X G z_LATE⟩
    c_EARLY := ⟨_, PySem.W.mg_of X G z_EARLY⟩
    e_BadWork := ⟨_, E_BadWork⟩
    e_LateError := ⟨_, E_LateError⟩
    e_OutOfRange := ⟨_, E_OutOfRange⟩
    e_NoRate := ⟨_, E_NoRate⟩
    s_LateError_BadWork := by unfold SubO; rw [E_LateError.e.ec, E_BadWork.e.ec]; exact s_LateError_BadWork
    s_BadWork_BadWork := by unfold SubO; rw [E_BadWork.e.ec]; exact s_BadWork_BadWork
    s_OutOfRange_BadWork := by unfold SubO; rw [E_OutOfRange.e.ec, E_BadWork.e.ec]; exact s_OutOfRange_BadWork
    s_NoRate_BadWork := by unfold SubO; rw [E_NoRate.e.ec, E_BadWork.e.ec]; exact s_NoRate_BadWork
    s_BadWork_NoRate := by unfold SubO; rw [E_BadWork.e.ec, E_NoRate.e.ec]; exact s_BadWork_NoRate
    s_NoRate_NoRate := by unfold SubO; rw [E_NoRate.e.ec]; exact s_NoRate_NoRate
    s_BadWork_OutOfRange := by unfold SubO; rw [E_BadWork.e.ec, E_OutOfRange.e.ec]; exact s_BadWork_OutOfRange
    s_OutOfRange_OutOfRange := by unfold SubO; rw [E_OutOfRange.e.ec]; exact s_OutOfRange_OutOfRange
    s_BadWork_ValueError := by unfold SubB; rw [E_BadWork.e.ec]; exact s_BadWork_ValueError
    s_BadWork_LateError := by unfold SubO; rw [E_BadWork.e.ec, E_LateError.e.ec]; exact s_BadWork_LateError
    s_LateError_LateError := by unfold SubO; rw [E_LateError.e.ec]; exact s_LateError_LateError
  }
  have F__law_draws := fun_mk (st := s__law_draws) l__law_draws c__law_draws' k__law_draws
  have D__law_draws : Fd K mg "_law_draws" s__law_draws ["cell", "limits"] := ⟨_, _, F__law_draws, PySem.W.mg_of X G a__law_draws, F__law_draws.binds fun _ _ _ _ _ _ us hl => match us, hl with | [_, _], _ => rfl⟩
  have F__law_cell := fun_mk (st := s__law_cell) l__law_cell c__law_cell' k__law_cell
  have D__law_cell : Fd K mg "_law_cell" s__law_cell ["script", "k"] := ⟨_, _, F__law_cell, PySem.W.mg_of X G a__law_cell, F__law_cell.binds fun _ _ _ _ _ _ us hl => match us, hl with | [_, _], _ => rfl⟩
  have F__law_reducible := fun_mk (st := s__law_reducible) l__law_reducible c__law_reducible' k__law_reducible
  have D__law_reducible : Fd K mg "_law_reducible" s__law_reducible ["far"] := ⟨_, _, F__law_reducible, PySem.W.mg_of X G a__law_reducible, F__law_reducible.binds fun _ _ _ _ _ _ us hl => match us, hl with | [_], _ => rfl⟩
  have F_is_fraction := fun_mk (st := s_is_fraction) l_is_fraction c_is_fraction' k_is_fraction
  have D_is_fraction : Fd K mg "is_fraction" s_is_fraction ["pair"] := ⟨_, _, F_is_fraction, PySem.W.mg_of X G a_is_fraction, F_is_fraction.binds fun _ _ _ _ _ _ us hl => match us, hl with | [_], _ => rfl⟩
  have F__is_valid_fraction := fun_mk (st := s__is_valid_fraction) l__is_valid_fraction c__is_valid_fraction' k__is_valid_fraction
  have D__is_valid_fraction : Fd K mg "_is_valid_fraction" s__is_valid_fraction ["moment"] := ⟨_, _, F__is_valid_fraction, PySem.W.mg_of X G a__is_valid_fraction, F__is_valid_fraction.binds fun _ _ _ _ _ _ us hl => match us, hl with | [_], _ => rfl⟩
  have F_check_work := fun_mk (st := s_check_work) l_check_work c_check_work' k_check_work
  have D_check_work : Fd K mg "check_work" s_check_work ["work"] := ⟨_, _, F_check_work, PySem.W.mg_of X G a_check_work, F_check_work.binds fun _ _ _ _ _ _ us hl => match us, hl with | [_], _ => rfl⟩
  have F_is_less := fun_mk (st := s_is_less) l_is_less c_is_less' k_is_less
  have D_is_less : Fd K mg "is_less" s_is_less ["first", "second"] := ⟨_, _, F_is_less, PySem.W.mg_of X G a_is_less, F_is_less.binds fun _ _ _ _ _ _ us hl => match us, hl with | [_, _], _ => rfl⟩
  have F_later := fun_mk (st := s_later) l_later c_later' k_later
  have D_later : Fd K mg "later" s_later ["first", "second"] := ⟨_, _, F_later, PySem.W.mg_of X G a_later, F_later.binds fun _ _ _ _ _ _ us hl => match us, hl with | [_, _], _ => rfl⟩
  have F_latest := fun_mk (st := s_latest) l_latest c_latest' k_latest
  have D_latest : Fd K mg "latest" s_latest ["moments"] := ⟨_, _, F_latest, PySem.W.mg_of X G a_latest, F_latest.binds fun _ _ _ _ _ _ us hl => match us, hl with | [_], _ => rfl⟩
  have F_has_empty_row := fun_mk (st := s_has_empty_row) l_has_empty_row c_has_empty_row' k_has_empty_row
  have DC_has_empty_row : FdC K mg "has_empty_row" s_has_empty_row ["work"] C_has_empty_row := ⟨_, _, F_has_empty_row, PySem.W.mg_of X G a_has_empty_row, (F_has_empty_row.binds fun _ _ _ _ _ _ us hl => match us, hl with | [_], _ => rfl), rfl⟩
  have T_has_empty_row := tb_has_empty_row (tabIn_of a_has_empty_row l_has_empty_row rfl lc_has_empty_row vp_has_empty_row)
  have D_has_empty_row : Fd K mg "has_empty_row" s_has_empty_row ["work"] := ⟨_, _, F_has_empty_row, PySem.W.mg_of X G a_has_empty_row, F_has_empty_row.binds fun _ _ _ _ _ _ us hl => match us, hl with | [_], _ => rfl⟩
  have F_check_mixed := fun_mk (st := s_check_mixed) l_check_mixed c_check_mixed' k_check_mixed
  have D_check_mixed : Fd K mg "check_mixed" s_check_mixed ["mixed"] := ⟨_, _, F_check_mixed, PySem.W.mg_of X G a_check_mixed, F_check_mixed.binds fun _ _ _ _ _ _ us hl => match us, hl with | [_], _ => rfl⟩
  have F_Desk := fun_mk (st := s_Desk) l_Desk c_Desk' k_Desk
  have D_Desk : FdI K mg "Desk" "Desk.__init__" s_Desk ["self", "work"] := ⟨_, _, _, F_Desk, PySem.W.mg_of X G a_Desk, ⟨mk_Desk, mi_Desk, mf_Desk, mq_Desk⟩, F_Desk.binds fun _ _ _ _ _ _ us hl => match us, hl with | [_, _], _ => rfl⟩
  have F__law_refused := fun_mk (st := s__law_refused) l__law_refused c__law_refused' k__law_refused
  have D__law_refused : Fd K mg "_law_refused" s__law_refused ["work"] := ⟨_, _, F__law_refused, PySem.W.mg_of X G a__law_refused, F__law_refused.binds fun _ _ _ _ _ _ us hl => match us, hl with | [_], _ => rfl⟩
  have F__law_no_sides := fun_mk (st := s__law_no_sides) l__law_no_sides c__law_no_sides' k__law_no_sides
  have D__law_no_sides : Fd K mg "_law_no_sides" s__law_no_sides ["work", "sides"] := ⟨_, _, F__law_no_sides, PySem.W.mg_of X G a__law_no_sides, F__law_no_sides.binds fun _ _ _ _ _ _ us hl => match us, hl with | [_, _], _ => rfl⟩
  have F__law_gcd := fun_mk (st := s__law_gcd) l__law_gcd c__law_gcd' k__law_gcd
  have D__law_gcd : Fd K mg "_law_gcd" s__law_gcd ["a", "b"] := ⟨_, _, F__law_gcd, PySem.W.mg_of X G a__law_gcd, F__law_gcd.binds fun _ _ _ _ _ _ us hl => match us, hl with | [_, _], _ => rfl⟩
  have F__law_fraction := fun_mk (st := s__law_fraction) l__law_fraction c__law_fraction' k__law_fraction
  have D__law_fraction : Fd K mg "_law_fraction" s__law_fraction ["top", "low"] := ⟨_, _, F__law_fraction, PySem.W.mg_of X G a__law_fraction, F__law_fraction.binds fun _ _ _ _ _ _ us hl => match us, hl with | [_, _], _ => rfl⟩
  have F__law_moment := fun_mk (st := s__law_moment) l__law_moment c__law_moment' k__law_moment
  have D__law_moment : Fd K mg "_law_moment" s__law_moment ["cell"] := ⟨_, _, F__law_moment, PySem.W.mg_of X G a__law_moment, F__law_moment.binds fun _ _ _ _ _ _ us hl => match us, hl with | [_], _ => rfl⟩
  have F__law_with := fun_mk (st := s__law_with) l__law_with c__law_with' k__law_with
  have D__law_with : Fd K mg "_law_with" s__law_with ["work", "i", "j", "moment"] := ⟨_, _, F__law_with, PySem.W.mg_of X G a__law_with, F__law_with.binds fun _ _ _ _ _ _ us hl => match us, hl with | [_, _, _, _], _ => rfl⟩
  have F_law := fun_mk (st := s_law) l_law c_law' k_law
  have D_law : Fd K mg "law" s_law ["script"] := ⟨_, _, F_law, PySem.W.mg_of X G a_law, F_law.binds fun _ _ _ _ _ _ us hl => match us, hl with | [_], _ => rfl⟩
  letI τ : Tabs := ⟨([(C_has_empty_row, P_has_empty_row)] : List (Addr × Addr)).map fun q => q.2⟩
  refine ⟨_, [(C_has_empty_row, P_has_empty_row)], (all_cons T_has_empty_row.2 all_nil), (all_cons (noTab_of X nt T_has_empty_row.2) all_nil), (all_cons T_has_empty_row.1 all_nil), fun s u => .of_eq rfl, fun base M TB => top_at hfa F_law (PySem.W.mg_of X G a_law) ?_⟩
  have TB_has_empty_row := TB (C_has_empty_row, P_has_empty_row) (by simp)
  have HP_has_empty_row : P_has_empty_row ∈ Tabs.T := List.mem_map.mpr ⟨(C_has_empty_row, P_has_empty_row), (by simp), rfl⟩
  have S_is_less := qs_is_less (P := PySem.Challenge.rw_latelaw_k03_works_checked.prog) (w := w) M D_is_less 
  have S_later := qs_later (P := PySem.Challenge.rw_latelaw_k03_works_checked.prog) (w := w) M D_later S_is_less
  have S_latest := qs_latest (P := PySem.Challenge.rw_latelaw_k03_works_checked.prog) (w := w) M D_latest S_later
  have Q_is_less := qf_is_less (P := PySem.Challenge.rw_latelaw_k03_works_checked.prog) (w := w) M D_is_less 
  have Q_later := S_later.qfn
  have Q_latest := S_latest.qfn
  have H__law_draws : Cal PySem.Challenge.rw_latelaw_k03_works_checked.prog w K mg base 1 "_law_draws" ["cell", "limits"] g__law_draws := c__law_draws GG D__law_draws 
  have H__law_cell : Cal PySem.Challenge.rw_latelaw_k03_works_checked.prog w K mg base 1 "_law_cell" ["script", "k"] g__law_cell := c__law_cell GG D__law_cell 
  have H__law_reducible : Cal PySem.Challenge.rw_latelaw_k03_works_checked.prog w K mg base 1 "_law_reducible" ["far"] g__law_reducible := c__law_reducible GG D__law_reducible 
  have H_is_fraction : Cal PySem.Challenge.rw_latelaw_k03_works_checked.prog w K mg base 1 "is_fraction" ["pair"] g_is_fraction := c_is_fraction GG D_is_fraction 
  have H__is_valid_fraction : Cal PySem.Challenge.rw_latelaw_k03_works_checked.prog w K mg base 2 "_is_valid_fraction" ["moment"] g__is_valid_fraction := c__is_valid_fraction GG D__is_valid_fraction H_is_fraction
  have H_check_work : Cal PySem.Challenge.rw_latelaw_k03_works_checked.prog w K mg base 3 "check_work" ["work"] g_check_work := c_check_work GG D_check_work H__is_valid_fraction
  have H_is_less : Cal PySem.Challenge.rw_latelaw_k03_works_checked.prog w K mg base 1 "is_less" ["first", "second"] g_is_less := c_is_less GG D_is_less 
  have H_later : Cal PySem.Challenge.rw_latelaw_k03_works_checked.prog w K mg base 2 "later" ["first", "second"] g_later := c_later GG D_later H_is_less
  have H_latest : Cal PySem.Challenge.rw_latelaw_k03_works_checked.prog w K mg base 3 "latest" ["moments"] g_latest := c_latest GG D_latest H_later
  have H_has_empty_row : Cal PySem.Challenge.rw_latelaw_k03_works_checked.prog w K mg base 5 "has_empty_row" ["work"] g_has_empty_row := c_has_empty_row GG M DC_has_empty_row TB_has_empty_row HP_has_empty_row Q_latest H_latest
  have H_check_mixed : Cal PySem.Challenge.rw_latelaw_k03_works_checked.prog w K mg base 6 "check_mixed" ["mixed"] g_check_mixed := c_check_mixed GG D_check_mixed H_check_work H_has_empty_row
  have H_Desk : CalI PySem.Challenge.rw_latelaw_k03_works_checked.prog w K mg base 4 "Desk" ["self", "work"] g_Desk := c_Desk GG D_Desk H_check_work
  have H__law_refused : Cal PySem.Challenge.rw_latelaw_k03_works_checked.prog w K mg base 7 "_law_refused" ["work"] g__law_refused := c__law_refused GG D__law_refused H_check_work H_Desk H_check_mixed
  have H__law_no_sides : Cal PySem.Challenge.rw_latelaw_k03_works_checked.prog w K mg base 7 "_law_no_sides" ["work", "sides"] g__law_no_sides := c__law_no_sides GG D__law_no_sides H_check_mixed
  have H__law_gcd : Cal PySem.Challenge.rw_latelaw_k03_works_checked.prog w K mg base 1 "_law_gcd" ["a", "b"] g__law_gcd := c__law_gcd GG D__law_gcd 
  have H__law_fraction : Cal PySem.Challenge.rw_latelaw_k03_works_checked.prog w K mg base 2 "_law_fraction" ["top", "low"] g__law_fraction := c__law_fraction GG D__law_fraction H__law_gcd
  have H__law_moment : Cal PySem.Challenge.rw_latelaw_k03_works_checked.prog w K mg base 3 "_law_moment" ["cell"] g__law_moment := c__law_moment GG D__law_moment H__law_draws H__law_fraction
  have H__law_with : Cal PySem.Challenge.rw_latelaw_k03_works_checked.prog w K mg base 1 "_law_with" ["work", "i", "j", "moment"] g__law_with := c__law_with GG D__law_with 
  have H_law : Cal PySem.Challenge.rw_latelaw_k03_works_checked.prog w K mg base 8 "law" ["script"] g_law := c_law GG D_law H__law_draws H__law_cell H__law_reducible H_check_mixed H_check_work H__law_refused H__law_no_sides H__law_moment H__law_with
  exact H_law
end LX
open PySem PySem.W PyProof.Rows
set_option maxHeartbeats 0 in
theorem PySem.Challenge.cw_latelaw_k03_works_checked_holds : PySem.Challenge.rw_latelaw_k03_works_checked.Holds := by
  w_on; o_law; k_head; (case hw => w_witness2)
  k_fill
  refine DL.walk_ofT (l := PySem.Challenge.rw_latelaw_k03_works_checked) (n := 63) (k := 8) (x := "script") (g := LX.g_law) rfl (by decide) rfl ⟨rfl, by decide, by decide⟩ (fun w h Y => PySem.W.kIn_of Y) ?F LX.good
  case F =>
    intro w mg mb fa h KX G hmg tb
    refine' LX.all_mk KX G hmg ?z_int ?z_abs ?z_len ?z_any ?z_repr ?z_isinstance ?z_ValueError ?z_range ?z_list ?z_gcd ?z_GREATEST_PART ?z_MOST_EVENTS ?z_LATE ?z_EARLY ?ea_BadWork ?ex_BadWork ?ek_BadWork ?eb_BadWork ?et_BadWork ?ei_BadWork ?eg_BadWork ?ek2_BadWork ?ed_BadWork ?ec_BadWork ?em_BadWork ?ea_LateError ?ex_LateError ?ek_LateError ?eb_LateError ?et_LateError ?ei_LateError ?eg_LateError ?ek2_LateError ?ed_LateError ?ec_LateError ?em_LateError ?ea_OutOfRange ?ex_OutOfRange ?ek_OutOfRange ?eb_OutOfRange ?et_OutOfRange ?ei_OutOfRange ?eg_OutOfRange ?ek2_OutOfRange ?ed_OutOfRange ?ec_OutOfRange ?em_OutOfRange ?ea_NoRate ?ex_NoRate ?ek_NoRate ?eb_NoRate ?et_NoRate ?ei_NoRate ?eg_NoRate ?ek2_NoRate ?ed_NoRate ?ec_NoRate ?em_NoRate ?es ?eu ?s_LateError_BadWork ?s_BadWork_BadWork ?s_OutOfRange_BadWork ?s_NoRate_BadWork ?s_BadWork_NoRate ?s_NoRate_NoRate ?s_BadWork_OutOfRange ?s_OutOfRange_OutOfRange ?s_BadWork_ValueError ?s_BadWork_LateError ?s_LateError_LateError ?a__law_draws ?l__law_draws ?c__law_draws9 ?k__law_draws ?a__law_cell ?l__law_cell ?c__law_cell9 ?k__law_cell ?a__law_reducible ?l__law_reducible ?c__law_reducible9 ?k__law_reducible ?a_is_fraction ?l_is_fraction ?c_is_fraction9 ?k_is_fraction ?a__is_valid_fraction ?l__is_valid_fraction ?c__is_valid_fraction9 ?k__is_valid_fraction ?a_check_work ?l_check_work ?c_check_work9 ?k_check_work ?a_is_less ?l_is_less ?c_is_less9 ?k_is_less ?a_later ?l_later ?c_later9 ?k_later ?a_latest ?l_latest ?c_latest9 ?k_latest ?a_has_empty_row ?l_has_empty_row ?c_has_empty_row9 ?lc_has_empty_row ?vp_has_empty_row ?tb_has_empty_row ?k_has_empty_row ?a_check_mixed ?l_check_mixed ?c_check_mixed9 ?k_check_mixed ?a_Desk ?mk_Desk ?mi_Desk ?mf_Desk ?mq_Desk ?l_Desk ?c_Desk9 ?k_Desk ?a__law_refused ?l__law_refused ?c__law_refused9 ?k__law_refused ?a__law_no_sides ?l__law_no_sides ?c__law_no_sides9 ?k__law_no_sides ?a__law_gcd ?l__law_gcd ?c__law_gcd9 ?k__law_gcd ?a__law_fraction ?l__law_fraction ?c__law_fraction9 ?k__law_fraction ?a__law_moment ?l__law_moment ?c__law_moment9 ?k__law_moment ?a__law_with ?l__law_with ?c__law_with9 ?k__law_with ?a_law ?l_law ?c_law9 ?k_law ?nt
    (case z_int => k_is)
    (case z_abs => k_is)
    (case z_len => k_is)
    (case z_any => k_is)
    (case z_repr => k_is)
    (case z_isinstance => k_is)
    (case z_ValueError => k_is)
    (case z_range => k_is)
    (case z_list => k_is)
    (case z_gcd => k_is)
    (case z_GREATEST_PART => k_is)
    (case z_MOST_EVENTS => k_is)
    (case z_LATE => k_is)
    (case z_EARLY => k_is)
    (case ea_BadWork => k_is)
    (case ex_BadWork => k_exc)
    (case ek_BadWork => k_is)
    (case eb_BadWork => k_is)
    (case et_BadWork => k_is)
    (case ei_BadWork => k_is)
    (case eg_BadWork => k_is)
    (case ek2_BadWork => k_is)
    (case ed_BadWork => k_is)
    (case ec_BadWork => k_is)
    (case em_BadWork => k_is)
    (case ea_LateError => k_is)
    (case ex_LateError => k_exc)
    (case ek_LateError => k_is)
    (case eb_LateError => k_is)
    (case et_LateError => k_is)
    (case ei_LateError => k_is)
    (case eg_LateError => k_is)
    (case ek2_LateError => k_is)
    (case ed_LateError => k_is)
    (case ec_LateError => k_is)
    (case em_LateError => k_is)
    (case ea_OutOfRange => k_is)
    (case ex_OutOfRange => k_exc)
    (case ek_OutOfRange => k_is)
    (case eb_OutOfRange => k_is)
    (case et_OutOfRange => k_is)
    (case ei_OutOfRange => k_is)
    (case eg_OutOfRange => k_is)
    (case ek2_OutOfRange => k_is)
    (case ed_OutOfRange => k_is)
    (case ec_OutOfRange => k_is)
    (case em_OutOfRange => k_is)
    (case ea_NoRate => k_is)
    (case ex_NoRate => k_exc)
    (case ek_NoRate => k_is)
    (case eb_NoRate => k_is)
    (case et_NoRate => k_is)
    (case ei_NoRate => k_is)
    (case eg_NoRate => k_is)
    (case ek2_NoRate => k_is)
    (case ed_NoRate => k_is)
    (case ec_NoRate => k_is)
    (case em_NoRate => k_is)
    (case es => k_is)
    (case eu => k_is)
    (case s_LateError_BadWork => first | rfl | k_is)
    (case s_BadWork_BadWork => first | rfl | k_is)
    (case s_OutOfRange_BadWork => first | rfl | k_is)
    (case s_NoRate_BadWork => first | rfl | k_is)
    (case s_BadWork_NoRate => first | rfl | k_is)
    (case s_NoRate_NoRate => first | rfl | k_is)
    (case s_BadWork_OutOfRange => first | rfl | k_is)
    (case s_OutOfRange_OutOfRange => first | rfl | k_is)
    (case s_BadWork_ValueError => first | rfl | k_is)
    (case s_BadWork_LateError => first | rfl | k_is)
    (case s_LateError_LateError => first | rfl | k_is)
    (case a__law_draws => k_is)
    (case l__law_draws => k_is)
    (case c__law_draws9 => k_is)
    (case k__law_draws => k_is)
    (case a__law_cell => k_is)
    (case l__law_cell => k_is)
    (case c__law_cell9 => k_is)
    (case k__law_cell => k_is)
    (case a__law_reducible => k_is)
    (case l__law_reducible => k_is)
    (case c__law_reducible9 => k_is)
    (case k__law_reducible => k_is)
    (case a_is_fraction => k_is)
    (case l_is_fraction => k_is)
    (case c_is_fraction9 => k_is)
    (case k_is_fraction => k_is)
    (case a__is_valid_fraction => k_is)
    (case l__is_valid_fraction => k_is)
    (case c__is_valid_fraction9 => k_is)
    (case k__is_valid_fraction => k_is)
    (case a_check_work => k_is)
    (case l_check_work => k_is)
    (case c_check_work9 => k_is)
    (case k_check_work => k_is)
    (case a_is_less => k_is)
    (case l_is_less => k_is)
    (case c_is_less9 => k_is)
    (case k_is_less => k_is)
    (case a_later => k_is)
    (case l_later => k_is)
    (case c_later9 => k_is)
    (case k_later => k_is)
    (case a_latest => k_is)
    (case l_latest => k_is)
    (case c_latest9 => k_is)
    (case k_latest => k_is)
    (case a_has_empty_row => k_is)
    (case l_has_empty_row => k_is)
    (case c_has_empty_row9 => k_is)
    (case lc_has_empty_row => k_is)
    (case vp_has_empty_row => rfl)
    (case tb_has_empty_row => exact fun z => tb rfl z)
    (case k_has_empty_row => k_is)
    (case a_check_mixed => k_is)
    (case l_check_mixed => k_is)
    (case c_check_mixed9 => k_is)
    (case k_check_mixed => k_is)
    (case a_Desk => k_is)
    (case mk_Desk => k_is)
    (case mi_Desk => k_is)
    (case mf_Desk => k_is)
    (case mq_Desk => k_is)
    (case l_Desk => k_is)
    (case c_Desk9 => k_is)
    (case k_Desk => k_is)
    (case a__law_refused => k_is)
    (case l__law_refused => k_is)
    (case c__law_refused9 => k_is)
    (case k__law_refused => k_is)
    (case a__law_no_sides => k_is)
    (case l__law_no_sides => k_is)
    (case c__law_no_sides9 => k_is)
    (case k__law_no_sides => k_is)
    (case a__law_gcd => k_is)
    (case l__law_gcd => k_is)
    (case c__law_gcd9 => k_is)
    (case k__law_gcd => k_is)
    (case a__law_fraction => k_is)
    (case l__law_fraction => k_is)
    (case c__law_fraction9 => k_is)
    (case k__law_fraction => k_is)
    (case a__law_moment => k_is)
    (case l__law_moment => k_is)
    (case c__law_moment9 => k_is)
    (case k__law_moment => k_is)
    (case a__law_with => k_is)
    (case l__law_with => k_is)
    (case c__law_with9 => k_is)
    (case k__law_with => k_is)
    (case a_law => k_is)
    (case l_law => k_is)
    (case c_law9 => k_is)
    (case k_law => k_is)
    (case nt => kernel_rfl)
