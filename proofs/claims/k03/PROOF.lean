import PyProof.Rows.All
import Wide.All
import OpenK.AllK
import Wide.FinOn
import HandS.ForMost
import HandS.IsInst
import HandS.AnyAll
import HandS.EndTab
import HandS.Walk
import HandS.TryOnly
import HandS.TupLe
import HandS.TupAny
import HandS.Set
import HandS.Strs
import HandS.SetFor
import HandS.JoinGen
import PyProof.SumAny
import HandS.Comp
import HandS.More
import HandS.Zip
import PySem.Challenge.RW_wipeways_k03_words_counted
set_option Elab.async false
set_option linter.all false
set_option maxRecDepth 100000
set_option maxHeartbeats 2000000
namespace Kk
open PySem PySem.Spec PyProof.Rows L2

/-- the element of a generator over signs, where the module's names are to be read -/
def EltB (X : Cx) (sc : Scope) (x : Str) (e : Expr) (pb : Nat → Bool) : Prop :=
  ∀ (ge : Env) (B : Around) (F : Value → Shared → Prop) (c : Nat) (t : Tok) (z : Shared) (m : Str → Option Value),
    ge.scope = sc → ge.globals = mainGlobals → (∀ b o, X.base.get? b = some o → z.heap.get? b = some o) →
    z.heap.Ns ge.locals m → m x = some (.str ⟨#[c]⟩ t) →
    wpAny (model X.prog X.w) B (eval e ge) (fun y z' => y = .bool (pb c) ∧ Keeps z z') F z

section
variable {X : Cx} {pins : List (Addr × Obj)} {σ : L2.St} {H : Hp} {s : Shared}

theorem genB {c P : Addr} {e it : Expr} {x : Str} {px gp : Pos} {sc : Scope} {pb : Nat → Bool} {te : TE} {k : Nat} {G : Value → Shared → Prop} {R : Str → Hp → Prop}
    (room : Room k X.A) (tab : GxR.TabB X.base X.mg c P) (code : X.env.code = .ref c) (gs : GxR.GenS X.env sc x) (pit : PE X it te) (pel : EltB X sc x e pb)
    (fold : ∀ v, genFold it X.env v = pure v) (I : Inv X pins σ H s) (want : te σ H fun v H1 => ∃ a : Str, v = .str a ∧ GxR.TabG H1 P ∧ R a H1)
    (fin : ∀ a H1 g s5, R a H1 → GxR.Ready X pins σ H1 P a pb g s5 → G (.ref g) s5) :
    wpAny (model X.prog X.w) X.A (eval (.GeneratorExp e [⟨.Name x px, it, [], 0⟩] sc gp) X.env) G X.xe s := by
  have deep : X.A.depth < recursionLimit := by have q := room.dp; omega
  refine wpAny_GeneratorExp_walksQ room.hd gs.co (closure_ok gs.free) gs.cell gs.dot gs.loc gs.kind deep ?_ fold
  refine thn (pit.run pins s σ H _ I want) fun xv z ⟨v, H1, J, rv, got⟩ => ?_
  obtain ⟨a, rfl, ⟨rows, isT, trip⟩, rest⟩ := got
  obtain ⟨t, rfl⟩ := _root_.id rv
  refine wpAny_pyIter_str fun io St W st0 => ?_
  have atP : z.heap.get? P = some { cls := .none, data := .fields rows } := J.hok P _ isT
  have ltP : P < z.heap.objs.size := Heap.lt_size atP
  have atP2 : (z.heap.push io).get? P = some { cls := .none, data := .fields rows } := Heap.get?_push_of_some _ atP
  have chd : PySem.W.CodeHd (z.heap.push io) c P := tab.code.keeps fun b u q => Heap.get?_push_of_some _ (J.bk b u q)
  have nl : (z.heap.push io).NoLimit := J.nolimit.push io
  have go : ∀ (cv : Value) (h3 : Heap) (tk : Nat) (rows' : Array Value), Heap.ExtBut P (z.heap.push io) h3 → (z.heap.push io).objs.size ≤ h3.objs.size →
      h3.get? P = some { cls := .none, data := .fields rows' } → (∃ more, rows' = rows ++ more) → TriplesOk rows'.toList →
      wpAny (model X.prog X.w) X.A (builtinsFor X.env.globals X.env.builtins) (fun bi s4 =>
        ∃ Ia fp wr n0 Pf S0 pz F, Value.ref z.heap.objs.size = .ref Ia ∧ (∀ B : Around, B.handled = none → Walks X.prog X.w B Ia fp wr n0 Pf S0) ∧
          S0 0 s4.heap ∧ (∀ b ∈ fp, b < s4.heap.objs.size) ∧ s4.heap.NoLimit ∧ cStatics ∉ wr ∧
          (∀ hr : Heap, (∀ b o, s4.heap.get? b = some o → hr.get? b = some o) →
            QuietGen X.prog X.w (genEnv sc (cloFrom X.env.cells sc.names []) s4.heap.objs.size cv bi X.env) x [] e (List.range s4.heap.objs.size) wr Pf pz F hr) ∧
          (∀ g h5 tk gst, gst.bare = true → s4.heap.objs.size < g → h5.objs.size = g + 1 → (∀ b o, s4.heap.get? b = some o → h5.get? b = some o) →
            WalksS X.prog X.w X.A.in4 g (g :: s4.heap.objs.size :: List.range s4.heap.objs.size) (s4.heap.objs.size :: wr) (GenOnlyQ s4.gens.size) (passing pz n0 0).length
              (fun j y => ∃ i, (passing pz n0 0)[j]? = some i ∧ F i y) (GenAt X.prog X.w X.A.in4 g s4.gens.size s4.heap.objs.size (List.range s4.heap.objs.size) wr pz n0 F) →
            GenAt X.prog X.w X.A.in4 g s4.gens.size s4.heap.objs.size (List.range s4.heap.objs.size) wr pz n0 F 0 { s4 with gens := s4.gens.push gst, toks := tk, heap := h5 } →
            G (.ref g) { s4 with gens := s4.gens.push gst, toks := tk, heap := h5 })) X.xe { z with heap := h3, toks := tk } := by
    intro cv h3 tk rows' ext le3 at3 grown trip3
    obtain ⟨bm, ob, b1, b2, b3, b4, b5, b6, b7, b8⟩ := tab.bm
    have cP : cStatics ≠ P := fun q => by
      obtain ⟨_, ns, _⟩ := J.nolimit
      obtain ⟨o9, es, ep, g9, d9, _⟩ := ns
      rw [q, atP] at g9; cases g9; cases d9
    have cLt : cStatics < z.heap.objs.size := let ⟨_, ns, _⟩ := J.nolimit; ns.lt
    have szI : (z.heap.push io).objs.size = z.heap.objs.size + 1 := Heap.size_push ..
    have kp3 : ∀ b u, b ≠ P → z.heap.get? b = some u → h3.get? b = some u := fun b u nb q => ext b u nb (Heap.get?_push_of_some _ q)
    have kpB : ∀ b u, X.base.get? b = some u → h3.get? b = some u ∧ b < z.heap.objs.size := fun b u q => by
      obtain ⟨q1, q2⟩ := J.bs b u q
      exact ⟨kp3 b u (fun zz => by rw [zz, isT] at q2; cases q2) q1, Heap.lt_size q1⟩
    refine wpAny_builtinsFor (m := X.mg) (by rw [J.ok.glob]; exact ((J.mod.glob.keeps J.bk).push io).extBut ext tab.gP) b1 b2 (kp3 _ _ b4 (J.bk _ _ b5)) b6 b7 b8 ?_
    refine ⟨z.heap.objs.size, [z.heap.objs.size], [z.heap.objs.size], a.cps.size, SignAt a, St, (fun _ => true), (fun i y => ∃ cc, a.cps[i]? = some cc ∧ y = .bool (pb cc)), rfl, W,
      ?_, ?_, nl.extBut ext cP, ?_, ?_, ?_⟩
    · refine (W X.A room.hd).frame _ _ _ st0 fun b hb u q => ext b u (fun zz => ?_) q
      rcases List.mem_cons.mp hb with z2 | z2
      · exact Nat.ne_of_lt ltP (zz.symm.trans z2)
      · cases z2
    · intro b hb
      rcases List.mem_cons.mp hb with q | q
      · rw [q]; show z.heap.objs.size < h3.objs.size; omega
      · cases q
    · intro q
      rcases List.mem_cons.mp q with q | q
      · exact Nat.ne_of_lt cLt q
      · cases q
    · intro hr hhr
      refine ⟨fun B E' i v s2 m2 hB hPv hn hm hk => ?_, fun B E' i v s2 m2 hB hPv hp hn hm hk => ?_⟩
      · simp only [List.forIn_nil]
        exact wpAny_pure ⟨rfl, GxR.keeps_refl _⟩
      · obtain ⟨cc, u, hcc, rfl⟩ := hPv
        refine wpAny_mono (pel _ B E' cc u s2 m2 rfl J.ok.glob (fun b o q => ?_) hn hm) (fun y s3 r => ⟨⟨cc, hcc, r.1⟩, r.2⟩) fun _ _ q => q
        obtain ⟨q1, q2⟩ := kpB b o q
        exact hk b (List.mem_range.mpr (Heap.lt_size q1)) (fun zz => by
          rcases List.mem_cons.mp zz with zz | zz
          · exact Nat.ne_of_lt q2 zz
          · cases zz) o (hhr b o q1)
    · intro g h5 tk5 gst bare gt sz5 kp5 W5 at0
      simp only [GxR.passing_true, List.length_range] at W5
      refine fin a H1 g _ rest ⟨_, _, _, _, _, W5.in4_1, at0, ?_, fun s9 mv => ?_⟩
      · intro j y sj Qj Ej hy hQj
        obtain ⟨i, hij, cc, hcc, rfl⟩ := hy
        obtain ⟨hj, ej⟩ := List.getElem?_eq_some_iff.mp hij
        rw [List.getElem_range] at ej
        subst ej
        have q9 : a.cps.toList[j]? = some cc := by rw [Array.getElem?_toList]; exact hcc
        have hQ2 : Qj (GxR.trF pb a.cps.toList j) sj := hQj
        rw [GxR.trF_some q9] at hQ2
        exact wpAny_truthy_bool hQ2
      · obtain ⟨more, em⟩ := grown
        have nw : ∀ b u, z.heap.get? b = some u → b ∉ h3.objs.size :: [z.heap.objs.size] := fun b u q hb => by
          have lb := Heap.lt_size q
          rcases List.mem_cons.mp hb with q | q
          · rw [q] at lb
            have q9 : (h3.objs.size : Nat) < z.heap.objs.size := lb
            omega
          · rcases List.mem_cons.mp q with q | q
            · rw [q] at lb; exact Nat.lt_irrefl _ lb
            · cases q
        have J2 := GxR.inv_tab (more := more) (h' := s9.heap) (g' := s9.gens) (d' := s9.drawn) (t' := s9.toks) J isT (fun b u nb q => mv.heap b u (nw b u q) (kp5 b u (kp3 b u nb q)))
          (by rw [← em]; exact mv.heap P _ (nw P _ atP) (kp5 P _ at3)) (AllBare.movedS (J.bare.push bare) mv)
        rw [GxR.sh_eta z s9 mv.os] at J2
        exact ⟨upd H1 P (.tbl (rows ++ more)), ⟨⟨rows ++ more, upd_same, by rw [← em]; exact trip3⟩, fun b nb => upd_ne nb⟩, J2⟩
  refine ⟨nl, ?_⟩
  cases am : codeAmong gp rows.toList with
  | none =>
    refine wpAny_genexprCodeX code (chd.code atP2 trip) (chd.tab atP2) am fun c' h' tk hx hge hlt hco _ htab _ => ?_
    obtain ⟨o1, vs, f1, tf, fl, tg, inF, tx, tt, op, _, _, _, _, _, _, _, _, _, htr, _⟩ := hco
    exact go _ h' tk _ hx (Nat.le_trans hge (Nat.le_of_lt hlt)) htab.2 ⟨_, rfl⟩ htr
  | some cv =>
    refine wpAny_genexprCode_hit code (chd.code atP2 trip) am ?_
    exact go cv (z.heap.push io) z.toks rows (Heap.ExtBut.refl _ _) (Nat.le_refl _) atP2 ⟨#[], by simp⟩ trip

/-- all(e for x in a text) -/
theorem pe_allB {c P : Addr} {e it : Expr} {x : Str} {px p pos gp : Pos} {sc : Scope} {pb : Nat → Bool} {te : TE} {k : Nat}
    (room : Room k X.A) (hg : Gl X "all") (hm : X.mg "all" = none) (tab : GxR.TabB X.base X.mg c P) (code : X.env.code = .ref c) (gs : GxR.GenS X.env sc x) (pit : PE X it te) (pel : EltB X sc x e pb)
    (fold : ∀ v, genFold it X.env v = pure v)
    (he : starEach [.GeneratorExp e [⟨.Name x px, it, [], 0⟩] sc gp] X.env = (false, eval (.GeneratorExp e [⟨.Name x px, it, [], 0⟩] sc gp) X.env) :: starEach [] X.env := by rfl) :
    PE X (.Call (.Name "all" p) [.GeneratorExp e [⟨.Name x px, it, [], 0⟩] sc gp] [] pos) (GxR.tAllS P pb te) := by
  refine ⟨fun pins s σ H Q I want => ?_⟩
  have hb : bootBuiltins "all" = some (.builtin "all") := by decide +kernel
  refine wpAny_Call_Name_kw (ld_blt I hg hm hb ?_)
  refine PyProof.Rows.callWith_builtin1 ?_ he (by rfl)
  rw [he]
  show wpAny _ _ (spliced ((false, eval (.GeneratorExp e [⟨.Name x px, it, [], 0⟩] sc gp) X.env) :: backTo pos (starEach [] X.env))) _ _ s
  refine Calls.spliced_cons (genB (R := fun a H1 => ∀ H2, GxR.Tabbed P H1 H2 → Q (.bl (a.cps.toList.all pb)) H2) room tab code gs pit pel fold I want fun a H1 g s5 hR rd => ?_)
  obtain ⟨fp, wr, G, F, St, W, hst, htr, hI⟩ := rd
  refine Calls.spliced_nil ?_
  refine call_all_walkS (W.self 0 _ _ _ hst ⟨g, fp, wr, G, _, F, St, _, rfl, W, hst, htr, fun s' mv => ?_⟩)
  obtain ⟨H2, hT, J⟩ := hI s' mv
  refine ⟨.bl _, H2, J, rfl, ?_⟩
  rw [GxR.all_signs a pb]
  exact hR H2 hT

/-- x in NAME: NAME a text of the module -/
theorem elt_in {sc : Scope} {x y z : Str} {tz : Tok} {p1 p2 p3 : Pos} (gls : X.base.Ns mainGlobals X.mg) (hk : sc.kind = .function) (hl : sc.names.lookup x = some .local)
    (hy : sc.names.lookup y = some .globalImplicit) (hm : X.mg y = some (.str z tz)) (hd : (x == ("__debug__" : Str)) = false := by decide) (hd2 : (y == ("__debug__" : Str)) = false := by decide) :
    EltB X sc x (.Compare (.Name x p1) [.In] [.Name y p2] p3) (fun c => decide (c ∈ z.cps.toList)) := by
  intro ge B F c t q m hs hgl kb hn hx
  refine wpAny_Compare1 ?_
  refine wpAny_Name (wpAny_loadName_local (by rw [hs]; exact hk) (show ge.scope.names.lookup x = some .local by rw [hs]; exact hl) hn hx ?_) hd
  refine Calls.Name_function_global (by rw [hs]; exact hk) ?_ (Calls.loadGlobal_global (by rw [hgl]; exact gls.keeps kb) hm ?_) hd2
  · show ge.scope.names.lookup y = some .globalImplicit
    rw [hs]; exact hy
  · refine PyProof.Rows.in_str ⟨?_, GxR.keeps_refl _⟩
    rw [PySem.StrLaws.found_one z c]
end
end Kk

namespace Kk
open PySem PySem.Spec PyProof.Rows L2

/-- no table of a code object -/
def NoTb (o : HO) : Prop := ∀ ps, o ≠ .tbl ps
theorem nt_lst {xs : List V} : NoTb (.lst xs) := fun _ h => by cases h
theorem nt_tup {xs : List V} : NoTb (.tup xs) := fun _ h => by cases h
theorem nt_dK {xs : List (Key × V)} : NoTb (.dK xs) := fun _ h => by cases h
theorem nt_frz {o : Obj} {u : HO} : NoTb (.frz o u) := fun _ h => by cases h
/-- what never changes -/
def Fx : HO → Bool
  | .tup _ => true
  | .frz _ _ => true
  | _ => false
/-- what stands stays, but for xs and what the tables grow by; nothing vanishes; tuples stay -/
structure Ex (xs : List Addr) (H H' : Hp) : Prop where
  a : ∀ b o, b ∉ xs → H b = some o → NoTb o → H' b = some o
  c : ∀ b o, H b = some o → Fx o = true → H' b = some o
  t : ∀ P, GxR.TabG H P → GxR.TabG H' P
  f : ∀ b, H' b = none → H b = none
theorem Ex.refl {xs : List Addr} {H : Hp} : Ex xs H H := ⟨fun _ _ _ h _ => h, fun _ _ h _ => h, fun _ h => h, fun _ h => h⟩
theorem Ex.trans {xs : List Addr} {H H1 H2 : Hp} (a : Ex xs H H1) (b : Ex xs H1 H2) : Ex xs H H2 :=
  ⟨fun c o n h t => b.a c o n (a.a c o n h t) t, fun c o h t => b.c c o (a.c c o h t) t, fun P h => b.t P (a.t P h), fun c h => a.f c (b.f c h)⟩
theorem Ex.mono {xs ys : List Addr} {H H' : Hp} (a : Ex xs H H') (s : ∀ b, b ∈ xs → b ∈ ys) : Ex ys H H' := ⟨fun c o n h t => a.a c o (fun q => n (s c q)) h t, a.c, a.t, a.f⟩
theorem Ex.nil {ys : List Addr} {H H' : Hp} (a : Ex [] H H') : Ex ys H H' := a.mono fun _ q => by cases q
theorem tab_upd {H : Hp} {P p : Addr} {o : HO} (t : GxR.TabG H P) (n : ∀ ps, H p ≠ some (.tbl ps)) : GxR.TabG (upd H p o) P := by
  obtain ⟨ps, h, q⟩ := t
  refine ⟨ps, ?_, q⟩
  rw [upd_ne fun z => n ps (by rw [← z]; exact h)]
  exact h
theorem upd_free {H : Hp} {p b : Addr} {o : HO} (h : upd H p o b = none) : H b = none := by
  by_cases z : b = p
  · rw [z, upd_same] at h; cases h
  · rw [upd_ne z] at h; exact h
theorem Ex.new {xs : List Addr} {H : Hp} {p : Addr} {o : HO} (n : H p = none) : Ex xs H (upd H p o) :=
  ⟨fun b u _ h _ => by rw [upd_ne (ne_of_none h n)]; exact h, fun b u h _ => by rw [upd_ne (ne_of_none h n)]; exact h, fun P h => tab_upd h fun ps z => (by rw [n] at z; cases z), fun b h => upd_free h⟩
theorem Ex.put {xs : List Addr} {H : Hp} {p : Addr} {u o : HO} (h0 : H p = some u) (nt : NoTb u) (m : p ∈ xs) (fx : Fx u = false := by rfl) : Ex xs H (upd H p o) :=
  ⟨fun b w nb h _ => by rw [upd_ne fun z => nb (by rw [z]; exact m)]; exact h, fun b w h k => (by
    have nb : b ≠ p := fun z => by rw [z, h0] at h; cases h; rw [fx] at k; cases k
    rw [upd_ne nb]; exact h), fun P h => tab_upd h fun ps z => (by rw [h0] at z; cases z; exact nt _ rfl), fun b h => upd_free h⟩
/-- an object of one's own, made on the way, may have changed -/
theorem Ex.own {xs : List Addr} {H H1 H' : Hp} {p : Addr} (n : H p = none) (e : Ex xs H H1) (a : Ex (p :: xs) H1 H') : Ex xs H H' :=
  ⟨fun b u nb h t => a.a b u (fun q => by
      rcases List.mem_cons.mp q with z | z
      · rw [z, n] at h; cases h
      · exact nb z) (e.a b u nb h t) t, fun b u h k => a.c b u (e.c b u h k) k, fun P h => a.t P (e.t P h), fun b h => e.f b (a.f b h)⟩
theorem Ex.lst {xs : List Addr} {H H' : Hp} {p : Addr} {ys : List V} (a : Ex xs H H') (h : H p = some (.lst ys)) (n : p ∉ xs := by simp) : H' p = some (.lst ys) := a.a p _ n h nt_lst
theorem Ex.dK {xs : List Addr} {H H' : Hp} {p : Addr} {ys : List (Key × V)} (a : Ex xs H H') (h : H p = some (.dK ys)) (n : p ∉ xs := by simp) : H' p = some (.dK ys) := a.a p _ n h nt_dK
theorem Ex.tup {xs : List Addr} {H H' : Hp} {p : Addr} {ys : List V} (a : Ex xs H H') (h : H p = some (.tup ys)) : H' p = some (.tup ys) := a.c p _ h rfl
theorem Ex.seqL {K : PySem.W.Frag} {xs : List Addr} {H H' : Hp} {p : Addr} {ys : List V} (a : Ex xs H H') (h : SqL K H p ys) (n : p ∉ xs := by simp) : SqL K H' p ys := by
  rcases h with (h | ⟨o, h⟩) | h
  · exact .inl (.inl (a.a p _ n h nt_lst))
  · exact .inl (.inr ⟨o, a.c p _ h rfl⟩)
  · exact .inr h
theorem Ex.seqT {K : PySem.W.Frag} {xs : List Addr} {H H' : Hp} {p : Addr} {ys : List V} (a : Ex xs H H') (h : SqT K H p ys) : SqT K H' p ys := by
  rcases h with (h | ⟨o, h⟩) | h
  · exact .inl (.inl (a.c p _ h rfl))
  · exact .inl (.inr ⟨o, a.c p _ h rfl⟩)
  · exact .inr h
theorem Ex.tabbed {xs : List Addr} {H H' : Hp} {P : Addr} (t : GxR.TabG H P) (k : GxR.Tabbed P H H') : Ex xs H H' := by
  obtain ⟨ps, e, _⟩ := t
  have st : ∀ b o, H b = some o → NoTb o → H' b = some o := fun b o h nt => by
    rw [k.2 b fun z => by rw [z, e] at h; cases h; exact nt _ rfl]; exact h
  refine ⟨fun b o _ h nt => st b o h nt, fun b o h fx => st b o h fun ps z => (by rw [z] at fx; cases fx), fun Q q => ?_, fun b h => ?_⟩
  · by_cases z : Q = P
    · rw [z]; exact k.1
    · obtain ⟨qs, h, r⟩ := q
      exact ⟨qs, by rw [k.2 Q z]; exact h, r⟩
  · by_cases z : b = P
    · obtain ⟨⟨qs, h', _⟩, _⟩ := k
      rw [z, h'] at h; cases h
    · rw [k.2 b z] at h; exact h

/-! data: texts, ints, truths, None, and tuples of these -/
mutual
inductive Tp (K : PySem.W.Frag) (H : Hp) : V → PyData → Prop
  | non : Tp K H .non .none
  | bl (b : Bool) : Tp K H (.bl b) (.bool b)
  | int (i : Int) : Tp K H (.int i) (.int i)
  | str (x : Str) : Tp K H (.str x) (.str x)
  | tup {a : Addr} {xs : List V} {ds : List PyData} : SqT K H a xs → TpAll K H xs ds → Tp K H (.ref a) (.tuple ds)
inductive TpAll (K : PySem.W.Frag) (H : Hp) : List V → List PyData → Prop
  | nil : TpAll K H [] []
  | cons {v : V} {vs : List V} {d : PyData} {ds : List PyData} : Tp K H v d → TpAll K H vs ds → TpAll K H (v :: vs) (d :: ds)
end
section
variable {K : PySem.W.Frag} {H H' : Hp} {xs : List Addr}
mutual
theorem Tp.ex (e : Ex xs H H') : ∀ {v : V} {d : PyData}, Tp K H v d → Tp K H' v d
  | _, _, .non => .non
  | _, _, .bl b => .bl b
  | _, _, .int i => .int i
  | _, _, .str x => .str x
  | _, _, .tup h r => .tup (e.seqT h) (TpAll.ex e r)
theorem TpAll.ex (e : Ex xs H H') : ∀ {vs : List V} {ds : List PyData}, TpAll K H vs ds → TpAll K H' vs ds
  | _, _, .nil => .nil
  | _, _, .cons h r => .cons (Tp.ex e h) (TpAll.ex e r)
end
mutual
theorem Tp.dp : ∀ {v : V} {d : PyData}, Tp K H v d → Dp K H v d
  | _, _, .non => .non
  | _, _, .bl b => .bl b
  | _, _, .int i => .int i
  | _, _, .str x => .str x
  | _, _, .tup h r => .tup h (TpAll.dp r)
theorem TpAll.dp : ∀ {vs : List V} {ds : List PyData}, TpAll K H vs ds → DpAll K H vs ds
  | _, _, .nil => .nil
  | _, _, .cons h r => .cons (Tp.dp h) (TpAll.dp r)
end
theorem TpAll.len {vs : List V} {ds : List PyData} (h : TpAll K H vs ds) : vs.length = ds.length := by
  induction vs generalizing ds with
  | nil => cases h; rfl
  | cons v vs ih => cases h with | cons a b => rw [List.length_cons, List.length_cons, ih b]
theorem TpAll.get {vs : List V} {ds : List PyData} (h : TpAll K H vs ds) : ∀ {i : Nat} {v : V}, vs[i]? = some v → ∃ d, ds[i]? = some d ∧ Tp K H v d := by
  induction vs generalizing ds with
  | nil => intro i v e; simp at e
  | cons v0 vs ih =>
    cases h with
    | cons a b =>
      intro i v e
      cases i with
      | zero => cases e; exact ⟨_, rfl, a⟩
      | succ i => exact ih b (i := i) (by simpa using e)
theorem TpAll.app {vs us : List V} {ds es : List PyData} (h : TpAll K H vs ds) (g : TpAll K H us es) : TpAll K H (vs ++ us) (ds ++ es) := by
  induction vs generalizing ds with
  | nil => cases h; exact g
  | cons v vs ih => cases h with | cons a b => exact .cons a (ih b)
theorem TpAll.strs : ∀ ws : List Str, TpAll K H (ws.map V.str) (ws.map PyData.str)
  | [] => .nil
  | w :: ws => .cons (.str w) (TpAll.strs ws)
theorem Tp.new {p : Addr} {ts : List V} {ds : List PyData} (n : H p = none) (h : TpAll K H ts ds) : Tp K (upd H p (.tup ts)) (.ref p) (.tuple ds) :=
  .tup (.of upd_same) (h.ex (.new (xs := []) n))
end

/-- a def whose code object is known: its generators' codes go into its own table -/
theorem okC {P : Program} {w : World} {K : PySem.W.Frag} {mg : Str → Option Value} {base : Heap} {x qual : Str} {st : Stmt} {f c : Addr} {N ps : List Str} {k : Nat} {sp : Sp}
    {oc : Value} {od an : Option Addr} {osl : Array (Option Value)} {kV doc pm ct : Value}
    (lk : K.lookup f = some ⟨oc, od, .func (PySem.W.fnOf x qual (defArgs st) (defBody st) (defScope st) .none kV doc pm an (.ref c) ct), osl⟩) (hc : PySem.W.codeIn K (.ref c) qual = true)
    (S : FnScope N ps (defScope st)) (len : ∀ vs H Q E, sp vs H Q E → vs.length = ps.length)
    (body : ∀ (A : Around) (outer : List Env) (s : Shared) (H : Hp) (vs : List V) (Q : VK) (E : XK), Room k (A.deeper (envOfC qual (defScope st) s.heap.objs.size f (.ref c))) → sp vs H Q E →
      ∃ t, PSs (cxOf CX0 P w K mg base N qual (defScope st) f (.ref c) A outer s H E).nox (defBody st) t ∧ t { nx := fun _ H' => Q .non H', rt := Q } (start N vs) H) :
    FnOk P w K mg base CX0 (k + 1) f (PySem.W.fnOf x qual (defArgs st) (defBody st) (defScope st) .none kV doc pm an (.ref c) ct) ps sp := by
  refine fn_of lk hc S len fun A outer s H vs Q E hr hsp => ?_
  obtain ⟨t, h, q⟩ := body A outer s H vs Q E hr hsp
  exact ⟨t, h.nox, q⟩
/-- a def that may be called: its promise, where it stands, how its arguments come -/
structure Cl (P : Program) (w : World) (K : PySem.W.Frag) (mg : Str → Option Value) (base : Heap) (k : Nat) (x : Str) (ps : List Str) (sp : Sp) (f : Addr) (fd : FuncData) : Prop where
  g : FnOk P w K mg base CX0 k f fd ps sp
  k : PySem.W.keepIn K (.ref f) = true
  b : Binds K fd ps []
  m : mg x = some (.ref f)
/-- where a def stands -/
structure At (K : PySem.W.Frag) (mg : Str → Option Value) (x : Str) (st : Stmt) (ps : List Str) (f : Addr) (fd : FuncData) : Prop where
  F : Fun K x x st f fd
  b : Binds K fd ps []
  m : mg x = some (.ref f)
theorem At.cl {P : Program} {w : World} {K : PySem.W.Frag} {mg : Str → Option Value} {base : Heap} {x : Str} {st : Stmt} {ps : List Str} {f : Addr} {fd : FuncData} {j k : Nat} {sp : Sp} (A : At K mg x st ps f fd) (g : FnOk P w K mg base CX0 j f fd ps sp) (h : j ≤ k) :
    Cl P w K mg base k x ps sp f fd := ⟨g.mono h, A.F.kp, A.b, A.m⟩
/-- nothing is promised of a call that never comes -/
theorem ok_never {P : Program} {w : World} {K : PySem.W.Frag} {mg : Str → Option Value} {base : Heap} {k : Nat} {ps : List Str} {f : Addr} {fd : FuncData} : FnOk P w K mg base CX0 k f fd ps (fun _ _ _ _ => False) :=
  ⟨fun _ _ _ _ h => h.elim, fun _ _ _ _ _ _ _ _ _ _ _ _ _ h => h.elim⟩
def rLenK (K : PySem.W.Frag) : List V → Hp → VK → Prop := fun xs H Q => ∃ p ys, xs = [V.ref p] ∧ (SqL K H p ys ∨ SqT K H p ys) ∧ Q (V.int ys.length) H
/-- within a comprehension: the written part is the def's own -/
theorem call_lenK {X : Cx} {K : PySem.W.Frag} (h : X.K = K) : CallR X (.builtin "len") (rLenK K) := by subst h; exact call_len_seq
theorem ix_listK {X : Cx} {K : PySem.W.Frag} (h : X.K = K) : IxR X (rIxL K) := by subst h; exact ix_list
theorem ix_tupK {X : Cx} {K : PySem.W.Frag} (h : X.K = K) : IxR X (rIxT K) := by subst h; exact ix_tup
theorem op_mul_str {X : Cx} : OpR X (binaryOp .Mult) (fun x y H Q => ∃ z n, x = .str z ∧ y = .int n ∧ MulOk z n ∧ Q (.str (Txt.mul z n)) H) := by
  intro pins s σ H x y v u Q I rx ry h
  obtain ⟨z, n, rfl, rfl, ok, q⟩ := h
  obtain ⟨t, rfl⟩ := rx
  obtain ⟨t', rfl⟩ := ry
  exact SB.mul ok fun t2 k => ⟨.str _, H, I.tok k, ⟨_, rfl⟩, q⟩
/-- a list held against the empty one -/
theorem op_eq_nil {X : Cx} {k : Nat} (hr : Room k X.A) : OpR X (compareOp .Eq) (fun x y H Q => ∃ a b xs, x = .ref a ∧ y = .ref b ∧ SqL X.K H a xs ∧ SqL X.K H b [] ∧ Q (.bl xs.isEmpty) H) := by
  intro pins s σ H x y v u Q I rx ry h
  obtain ⟨a, b, xs, rfl, rfl, ha, hb, q⟩ := h
  cases (show v = Value.ref a from rx)
  cases (show u = Value.ref b from ry)
  obtain ⟨its, r, pl, hz⟩ := I.list ha
  obtain ⟨its2, r2, pl2, hz2⟩ := I.list hb
  have e2 : its2 = [] := List.length_eq_zero_iff.mp r2.length.symm
  subst e2
  cases xs with
  | nil =>
    have e1 : its = [] := List.length_eq_zero_iff.mp r.length.symm
    subst e1
    exact SeqAt.eq_listAt (e := fun _ => true) pl.isList pl2.isList rfl hr.units0 (fun j h1 _ => absurd h1 (Nat.not_lt_zero j)) ⟨.bl true, H, I, rfl, q⟩
  | cons z zs =>
    have e1 : its.length = zs.length + 1 := r.length.symm
    refine SeqAt.eq_list_lengthsAt pl.isList pl2.isList ?_ hr.units0 ⟨.bl false, H, I, rfl, q⟩
    simp [e1]
end Kk

namespace K03
open PySem PySem.Spec PyProof.Rows L2 Kk
def topS (i : Nat) : Stmt := PySem.Challenge.pw_wipeways_k03_words_counted.main.body.getD i (.Pass ⟨0, 0, 0, 0⟩)
def abc : Str := Str.ofString "abcdefghijklmnopqrstuvwxyz"
theorem len_line {a : Str} (h : a.length ≤ 1000) : a.length ≤ sizeLine := Nat.le_trans h (by decide)
abbrev sDeck : Stmt := topS 10
abbrev sDraw : Stmt := topS 11
theorem scDeck : FnScope ["_law_script", "_law_k", "_law_cell"] ["_law_script", "_law_k"] (defScope sDeck) := ⟨rfl, rfl, rfl, by decide +kernel, rfl, by decide +kernel, by decide +kernel⟩
theorem scDraw : FnScope ["_law_deck_here", "_law_many_here", "_law_got", "_law_number"] ["_law_deck_here", "_law_many_here"] (defScope sDraw) := ⟨rfl, rfl, rfl, by decide +kernel, rfl, by decide +kernel, by decide +kernel⟩
/-- a deck, at most n draws by its counter -/
def Deck (H : Hp) (d : Addr) (n : Nat) : Prop := ∃ a b c : Int, H d = some (.lst [.int a, .int b, .int c]) ∧ 0 ≤ a ∧ 0 ≤ b ∧ b < 2147483647 ∧ 0 ≤ c ∧ c ≤ (n : Int)
theorem Deck.ex {H H' : Hp} {d : Addr} {n : Nat} {xs : List Addr} (h : Deck H d n) (e : Ex xs H H') (m : d ∉ xs) : Deck H' d n := by
  obtain ⟨a, b, c, h, r⟩ := h
  exact ⟨a, b, c, e.lst h m, r⟩
theorem Deck.mono {H : Hp} {d : Addr} {n m : Nat} (h : Deck H d n) (e : n ≤ m) : Deck H d m := by
  obtain ⟨a, b, c, h, r1, r2, r3, r4, r5⟩ := h
  exact ⟨a, b, c, h, r1, r2, r3, r4, by omega⟩
theorem Deck.some {H : Hp} {d : Addr} {n : Nat} (h : Deck H d n) : ∃ xs, H d = some (.lst xs) := let ⟨_, _, _, h, _⟩ := h; ⟨_, h⟩
theorem atN {α : Type} {xs : List α} {j : Nat} {v : α} (h : xs[j]? = some v) : atI xs (j : Int) = some v := atI_nat h
section
variable {P : Program} {w : World} {K : PySem.W.Frag} {mg : Str → Option Value} {base : Heap}
def spDeck (K : PySem.W.Frag) : Sp := fun vs H Q _ => ∃ (s : Addr) (ns : List Int) (k : Nat), vs = [.ref s, .int k] ∧ SqL K H s (ns.map V.int) ∧
  ∀ H' p, H p = none → Ex [] H H' → Deck H' p 0 → Q (.ref p) H'
theorem ok_deck {f : Addr} {fd : FuncData} {k : Nat} (F : Fun K "_law_deck" "_law_deck" sDeck f fd) (ml : mg "len" = none) (mi : mg "int" = none) : FnOk P w K mg base CX0 (k + 1) f fd ["_law_script", "_law_k"] (spDeck K) := by
  refine F.ok scDeck (fun vs H Q E h => ?_) (fun cdv A outer s H vs Q E hr h => ?_)
  · obtain ⟨s, ns, k, rfl, _⟩ := h; rfl
  · obtain ⟨s, ns, k, rfl, hS, q⟩ := h
    refine ⟨_, pss_cons (ps_set (i := 2) scDeck.nd rfl (.inl rfl) pe_int)
      (pss_cons (ps_if (pt_cmpR op_lt (pv 1) (pe_callB call_len_seq (by rfl) ml PySem.boot_len (pa_cons (pv 0) pa_nil)) (nomark _)) (pss_one (ps_set (i := 2) scDeck.nd rfl (.inl rfl) (pe_ix ix_list (pv 0) (pv 1) (fun _ _ => rfl)))) pss_nil)
      (pss_one (ps_ret (pe_lst (pa_cons (pe_op op_mul (pv 2) (pe_callTy call_int1 (by rfl) mi (by decide +kernel) (pa_cons (pe_cmpR op_ge (pv 2) (pe_op op_pow pe_int pe_int) (nomark _)) pa_nil)))
        (pa_cons (pe_op op_mod (pv 2) pe_int) (pa_cons pe_int pa_nil))))))), ?_⟩
    have fin : ∀ (z : Int) (p : Addr) (i : Bool), H p = none → (i = true → 0 ≤ z) → Q (.ref p) (upd H p (.lst [.int (z * if i = true then 1 else 0), .int (z % 2147483647), .int 0])) := fun z p i np hi =>
      q _ p np (.new np) ⟨_, _, _, upd_same, by cases i with | false => simp | true => (have := hi rfl; simp; exact this), Int.emod_nonneg _ (by decide), Int.emod_lt_of_pos _ (by decide), by decide, by decide⟩
    refine ⟨.int k, rfl, .ref s, rfl, s, _, rfl, .inl hS, _, _, rfl, rfl, _, rfl, ite2 (fun e => ?_) (fun e => ?_)⟩
    · have e1 : k < ns.length := by
        have e2 := of_decide_eq_true e
        rw [List.length_map] at e2; omega
      have e3 : (ns.map V.int)[k]? = some (.int ns[k]) := by rw [List.getElem?_map, List.getElem?_eq_getElem e1]; rfl
      refine ⟨.ref s, rfl, .int k, rfl, s, _, _, _, rfl, rfl, hS, atN e3, ?_⟩
      refine ⟨.int ns[k], rfl, .int ns[k], rfl, 10, 18, rfl, rfl, ⟨by decide, by decide, by decide⟩, ns[k], _, rfl, rfl, .inr ⟨_, rfl, ns[k], _, rfl, rfl, .inr ?_, .int ns[k], rfl, ns[k], _, rfl, rfl, (by show (0 : Int) < 2147483647; decide), (by show 3 ≤ sizeLine; decide), fun p np => fin _ p _ np ?_⟩⟩
      · split <;> decide
      · intro e5
        have e6 := of_decide_eq_true e5
        exact Int.le_trans (by decide) e6
    · refine ⟨.int 0, rfl, .int 0, rfl, 10, 18, rfl, rfl, ⟨by decide, by decide, by decide⟩, 0, _, rfl, rfl, .inr ⟨_, rfl, 0, _, rfl, rfl, .inl (by decide), .int 0, rfl, 0, _, rfl, rfl, (by show (0 : Int) < 2147483647; decide), (by show 3 ≤ sizeLine; decide), fun p np => fin _ p _ np (fun _ => Int.le_refl _)⟩⟩
def spDraw : Sp := fun vs H Q _ => ∃ (d : Addr) (m : Int) (n : Nat), vs = [.ref d, .int m] ∧ Deck H d n ∧ n ≤ 1000000 ∧ 0 < m ∧ m < 1000000 ∧
  ∀ H' v, 0 ≤ v → v < m → Ex [d] H H' → Deck H' d (n + 1) → Q (.int v) H'
theorem ok_draw {f : Addr} {fd : FuncData} {k : Nat} (F : Fun K "_law_draw" "_law_draw" sDraw f fd) : FnOk P w K mg base CX0 (k + 1) f fd ["_law_deck_here", "_law_many_here"] spDraw := by
  refine F.ok scDraw (fun vs H Q E h => ?_) (fun cdv A outer s H vs Q E hr h => ?_)
  · obtain ⟨d, m, n, rfl, _⟩ := h; rfl
  · obtain ⟨d, m, n, rfl, ⟨a, b, c, hd, ha, hb, hb2, hc, hc2⟩, hn, hm, hm2, q⟩ := h
    refine ⟨_, pss_cons (ps_if (pt_cmpR op_gt (pe_ix ix_list (pv 0) pe_int (fun _ _ => rfl)) pe_int (nomark _))
        (pss_cons (ps_set (i := 2) scDraw.nd rfl (.inl rfl) (pe_op op_mod (pe_ix ix_list (pv 0) pe_int (fun _ _ => rfl)) (pv 1)))
        (pss_cons (ps_asg (pe_op op_fdiv (pe_ix ix_list (pv 0) pe_int (fun _ _ => rfl)) (pv 1)) (pg_sub (pv 0) pe_int set_list))
        (pss_one (ps_ret (pv 2))))) pss_nil)
      (pss_cons (ps_asg (pe_op op_add (pe_ix ix_list (pv 0) pe_int (fun _ _ => rfl)) pe_int) (pg_sub (pv 0) pe_int set_list))
      (pss_cons (ps_set (i := 3) scDraw.nd rfl (.inl rfl) (pe_op op_mod (pe_op op_mul (pe_op op_add (pe_op op_add (pe_ix ix_list (pv 0) pe_int (fun _ _ => rfl)) (pe_op op_mul (pe_op op_mul pe_int (pe_ix ix_list (pv 0) pe_int (fun _ _ => rfl))) (pe_ix ix_list (pv 0) pe_int (fun _ _ => rfl)))) pe_int) pe_int) pe_int))
      (pss_one (ps_ret (pe_op op_mod (pe_op op_fdiv (pe_op op_mod (pe_op op_mul (pv 3) (pe_op op_add (pv 3) pe_int)) pe_int) pe_int) (pv 1)))))), ?_⟩
    have hL : SqL K H d [.int a, .int b, .int c] := .of hd
    refine ⟨.ref d, rfl, d, _, 0, .int a, rfl, rfl, hL, rfl, a, 0, rfl, rfl, _, rfl, ite2 (fun e => ?_) (fun e => ?_)⟩
    · refine ⟨.ref d, rfl, d, _, 0, .int a, rfl, rfl, hL, rfl, .int m, rfl, a, m, rfl, rfl, hm, ?_⟩
      refine ⟨.ref d, rfl, d, _, 0, .int a, rfl, rfl, hL, rfl, .int m, rfl, a, m, rfl, rfl, ⟨hm, by omega⟩, .ref d, rfl, d, _, 0, 0, rfl, rfl, hd, rfl, .int (a % m), rfl, ?_⟩
      exact q _ _ (Int.emod_nonneg _ (by omega)) (Int.emod_lt_of_pos _ hm) (.put hd nt_lst (by simp)) ⟨_, b, c, upd_same, Int.ediv_nonneg ha (by omega), hb, hb2, hc, by omega⟩
    · have x1 : Ex [d] H (upd H d (.lst [.int a, .int b, .int (c + 1)])) := .put hd nt_lst (by simp)
      have hL2 : SqL K (upd H d (.lst [.int a, .int b, .int (c + 1)])) d [.int a, .int b, .int (c + 1)] := .of upd_same
      refine ⟨.ref d, rfl, d, _, 2, .int c, rfl, rfl, hL, rfl, c, 1, rfl, rfl, .ref d, rfl, d, _, 2, 2, rfl, rfl, hd, rfl, ?_⟩
      refine ⟨.ref d, rfl, d, _, 1, .int b, rfl, rfl, hL2, rfl, .ref d, rfl, d, _, 2, .int (c + 1), rfl, rfl, hL2, rfl, 7919, c + 1, rfl, rfl, .inl ⟨by decide, by decide⟩, .ref d, rfl, d, _, 2, .int (c + 1), rfl, rfl, hL2, rfl,
        _, c + 1, rfl, rfl, .inr ⟨by omega, by omega⟩, b, _, rfl, rfl, _, 31, rfl, rfl, _, 48271, rfl, rfl, .inr ⟨by decide, by decide⟩, _, 2147483647, rfl, rfl, (by show (0 : Int) < 2147483647; decide), ?_⟩
      have z1 : 0 ≤ (b + 7919 * (c + 1) * (c + 1) + 31) * 48271 % 2147483647 := Int.emod_nonneg _ (by decide)
      have z2 : (b + 7919 * (c + 1) * (c + 1) + 31) * 48271 % 2147483647 < 2147483647 := Int.emod_lt_of_pos _ (by decide)
      refine ⟨_, rfl, _, rfl, _, 69621, rfl, rfl, _, _, rfl, rfl, .inl ⟨Int.lt_of_lt_of_le (by decide) z1, Int.lt_trans z2 (by decide)⟩, _, 2147483629, rfl, rfl, (by show (0 : Int) < 2147483629; decide), _, 8, rfl, rfl, ⟨by decide, by decide⟩, .int m, rfl, _, m, rfl, rfl, hm, ?_⟩
      exact q _ _ (Int.emod_nonneg _ (by omega)) (Int.emod_lt_of_pos _ hm) x1 ⟨a, b, c + 1, upd_same, ha, hb, hb2, by omega, by omega⟩
end
end K03

namespace K03
open PySem PySem.Spec PyProof.Rows L2 Kk
abbrev sNames : Stmt := topS 12
abbrev nNames : List Str := ["_law_deck_here", "_law_many_here", "_law_letters", "_law_k", "_law_base", "_law_at", "_law_first", "_law_longer", "_law_got"]
theorem scNames : FnScope nNames ["_law_deck_here", "_law_many_here"] (defScope sNames) := ⟨rfl, rfl, rfl, by decide +kernel, rfl, by decide +kernel, by decide +kernel⟩
/-- the text of one sign -/
def sg (c : Nat) : Str := ⟨#[c]⟩
def odd8 : Str := Str.ofString "qyyyyyyy"
/-- a name as it is drawn: q, small letters, at most eight signs -/
structure NmG (z : Str) : Prop where
  abc : ∀ c ∈ TL.tl z, c ∈ abc.cps.toList
  q : (TL.tl z).head? = some 113
  lo : 2 ≤ z.length
  hi : z.length ≤ 8
  odd : z ≠ odd8
theorem abc_at (v : Int) (h0 : 0 ≤ v) (h1 : v < 26) : ∃ c, atI abc.cps.toList v = some c ∧ c ∈ abc.cps.toList ∧ abc.cps.toList[v.toNat]? = some c := by
  have hl : abc.cps.toList.length = 26 := by decide +kernel
  have h2 : v.toNat < abc.cps.toList.length := by omega
  refine ⟨abc.cps.toList[v.toNat], ?_, List.getElem_mem _, List.getElem?_eq_getElem h2⟩
  have := atI_nat (List.getElem?_eq_getElem h2)
  rwa [Int.toNat_of_nonneg h0] at this
theorem sg_sum : ∀ cl : List Nat, ((cl.map sg).map (·.length)).sum = cl.length
  | [] => rfl
  | c :: cl => by
    rw [List.map_cons, List.map_cons, List.sum_cons, sg_sum cl, List.length_cons]
    show 1 + cl.length = cl.length + 1
    omega
theorem join_sg (cl : List Nat) : TL.tl (Txt.join (Str.ofString "") (cl.map sg)) = cl := by
  rw [TL.join_eq, TL.tl_join]
  have e : TL.tl (Str.ofString "") = [] := by decide +kernel
  rw [e]
  induction cl with
  | nil => rfl
  | cons c r ih =>
    cases r with
    | nil => rfl
    | cons c2 r2 =>
      simp only [List.map_cons, TL.joinL, List.nil_append] at ih ⊢
      rw [ih]; rfl
theorem mul01 {z : Str} {n : Int} (h0 : 0 ≤ n) (h1 : n ≤ 1) : MulOk z n ∧ (Txt.mul z n = Str.empty ∨ Txt.mul z n = z) := by
  have hc : n = 0 ∨ n = 1 := by omega
  rcases hc with rfl | rfl
  · refine ⟨⟨by decide, fun h => absurd (by decide) h, fun h => absurd (by decide) h⟩, .inl ?_⟩
    unfold Txt.mul; rw [if_pos (by decide)]
  · refine ⟨⟨by decide, fun _ h => ?_, fun _ h => ?_⟩, .inr ?_⟩
    · simp at h
    · simp at h
    · unfold Txt.mul; rw [if_neg (by decide), if_pos (by simp)]
theorem zs_ok {n : Int} (h0 : 0 ≤ n) (h1 : n ≤ 1) : TL.tl (Txt.mul (Str.ofString "z") n) = [] ∨ TL.tl (Txt.mul (Str.ofString "z") n) = [122] := by
  rcases (mul01 (z := Str.ofString "z") h0 h1).2 with e | e <;> rw [e]
  · exact .inl (by decide +kernel)
  · exact .inr (by decide +kernel)
theorem ixN_of {n : Nat} {i : Int} (h0 : 0 ≤ i) (h1 : i < n) : ixN n i = some i.toNat := by
  unfold ixN; rw [if_pos h0, if_pos h1]
theorem len_add (a b : Str) : (a ++ b).length = a.length + b.length := by rw [TL.len_tl, TL.tl_append, List.length_append, ← TL.len_tl, ← TL.len_tl]
/-- what a drawn name's signs are -/
theorem name_tl (cl : List Nat) {n : Int} (h0 : 0 ≤ n) (h1 : n ≤ 1) : ∃ zs, (zs = [] ∨ zs = [122]) ∧ TL.tl (Str.ofString "q" ++ Txt.join (Str.ofString "") (cl.map sg) ++ Txt.mul (Str.ofString "z") n) = 113 :: (cl ++ zs) := by
  refine ⟨_, zs_ok h0 h1, ?_⟩
  rw [TL.tl_append, TL.tl_append, join_sg, show TL.tl (Str.ofString "q") = [113] by decide +kernel]
  simp
theorem name_ok {cl : List Nat} {n : Int} (h0 : 0 ≤ n) (h1 : n ≤ 1) (hl : 1 ≤ cl.length) (hl2 : cl.length ≤ 6) (hc : ∀ c ∈ cl, c ∈ abc.cps.toList) : NmG (Str.ofString "q" ++ Txt.join (Str.ofString "") (cl.map sg) ++ Txt.mul (Str.ofString "z") n) := by
  obtain ⟨zs, hz, e⟩ := name_tl cl h0 h1
  have hzl : zs.length ≤ 1 := by rcases hz with rfl | rfl <;> simp
  refine ⟨fun c m => ?_, by rw [e]; rfl, ?_, ?_, fun z => ?_⟩
  · rw [e] at m
    rcases List.mem_cons.mp m with m | m
    · rw [m]; decide +kernel
    · rcases List.mem_append.mp m with m | m
      · exact hc c m
      · rcases hz with rfl | rfl
        · cases m
        · rw [List.mem_singleton.mp m]; decide +kernel
  · rw [TL.len_tl, e, List.length_cons, List.length_append]; omega
  · rw [TL.len_tl, e, List.length_cons, List.length_append]; omega
  · have e2 : TL.tl odd8 = [113, 121, 121, 121, 121, 121, 121, 121] := by decide +kernel
    rw [z, e2] at e
    have el := congrArg List.length e
    simp only [List.length_cons, List.length_append, List.length_nil] at el
    rcases hz with rfl | rfl
    · simp at el; omega
    · have e7 := congrArg (fun l => l[7]?) e
      have hcl : cl.length = 6 := by simp at el; omega
      have : (113 :: (cl ++ [122]))[7]? = some 122 := by
        show (cl ++ [122])[6]? = some 122
        rw [List.getElem?_append_right (by omega), hcl]; rfl
      simp only [this] at e7
      cases e7
theorem abc_inj {i j : Nat} (hi : i < 26) (hj : j < 26) (e : abc.cps.toList[i]? = abc.cps.toList[j]?) : i = j := by
  have nd : abc.cps.toList.Nodup := by decide +kernel
  have hl : abc.cps.toList.length = 26 := by decide +kernel
  rw [List.getElem?_eq_getElem (by omega), List.getElem?_eq_getElem (by omega)] at e
  exact (List.getElem_inj nd).mp (Option.some.inj e)
section
variable {P : Program} {w : World} {K : PySem.W.Frag} {mg : Str → Option Value} {base : Heap}
def spNames : Sp := fun vs H Q _ => ∃ (d : Addr) (m : Nat) (n : Nat), vs = [.ref d, .int m] ∧ Deck H d n ∧ n ≤ 1000 ∧ m ≤ 26 ∧
  ∀ H' p (ws : List Str), H p = none → Ex [d] H H' → Deck H' d (n + 10) → H' p = some (.lst (ws.map V.str)) → ws.length = m → (∀ z ∈ ws, NmG z) → ws.Nodup → (∀ z, ws[0]? = some z → z.length ≤ 7) → Q (.ref p) H'
theorem ok_names {f fD : Addr} {fd fdD : FuncData} {k : Nat} (F : Fun K "_law_names" "_law_names" sNames f fd) (C : Cl P w K mg base k "_law_draw" ["_law_deck_here", "_law_many_here"] spDraw fD fdD) (ml : mg "len" = none) (mr : mg "range" = none) : FnOk P w K mg base CX0 (k + 1) f fd ["_law_deck_here", "_law_many_here"] spNames := by
  refine F.ok scNames (fun vs H Q E h => ?_) (fun cdv A outer s H vs Q E hr h => ?_)
  · obtain ⟨d, m, n, rfl, _⟩ := h; rfl
  · obtain ⟨d, m, n, rfl, hD, hn, hm, q⟩ := h
    refine ⟨_, pss_cons (ps_set (i := 2) scNames.nd rfl (.inr rfl) pe_str)
      (pss_cons (ps_setLc (i := 4) (own := [("_law_k", 3)]) (g := gName 3) (tt := tYes) rfl scNames.nd rfl rfl (sw_true rfl rfl rfl (by decide +kernel))
          (pi_range1 (by rfl) mr (pa_cons (pe_op op_add pe_int (pe_call C.g hr (by rfl) C.m C.k C.b .nil pass0 (pa_cons (pv 0) (pa_cons pe_int pa_nil)))) pa_nil))
          (blkOk_by (N := nNames) (sc := defScope sNames) (by decide +kernel))
          (fun _ _ _ _ _ => pg_name (i := 3) scNames.nd rfl (Or.inl rfl)) (fun _ _ _ _ _ => pts_nil)
          (fun _ _ _ _ _ => pe_ix ix_str (pv 2) (pe_call C.g hr (by rfl) C.m C.k C.b .nil pass0 (pa_cons (pv 0) (pa_cons pe_int pa_nil))) (fun _ _ => rfl)))
      (pss_cons (ps_set (i := 5) scNames.nd rfl (.inl rfl) (pe_call C.g hr (by rfl) C.m C.k C.b .nil pass0 (pa_cons (pv 0) (pa_cons (pe_callB call_len_seq (by rfl) ml PySem.boot_len (pa_cons (pv 4) pa_nil)) pa_nil))))
      (pss_cons (ps_set (i := 6) scNames.nd rfl (.inl rfl) (pe_call C.g hr (by rfl) C.m C.k C.b .nil pass0 (pa_cons (pv 0) (pa_cons pe_int pa_nil))))
      (pss_cons (ps_set (i := 7) scNames.nd rfl (.inl rfl) (pe_call C.g hr (by rfl) C.m C.k C.b .nil pass0 (pa_cons (pv 0) (pa_cons pe_int pa_nil))))
      (pss_cons (ps_set (i := 8) scNames.nd rfl (.inl rfl) (pe_lst pa_nil))
      (pss_cons (ps_for PassesOwn.never rfl (pi_range1 (by rfl) mr (pa_cons (pv 1) pa_nil)) (pg_name (i := 3) scNames.nd rfl (.inl rfl))
        (pss_cons (ps_asg (pe_ix ix_str (pv 2) (pe_op op_mod (pe_op op_add (pv 6) (pv 3)) pe_int) (fun _ _ => rfl)) (pg_sub (pv 4) (pv 5) set_list))
        (pss_one (ps_expr (pe_bm PySem.F.plainAttrs_list PySem.F.slot_list_append PySem.F.type_list_append mt_append (pv 8)
          (pa_cons (pe_op op_add_str (pe_op op_add_str pe_str (pe_join pe_str (pv 4))) (pe_op op_mul_str pe_str (pe_op op_mul (pe_op op_mod (pv 3) pe_int) (pv 7)))) pa_nil))))))
      (pss_one (ps_ret (pv 8))))))))), ?_⟩
    refine ⟨.ref d, rfl, d, 6, n, rfl, hD, by omega, by decide, by decide, fun H1 v hv0 hv1 x1 D1 => ?_⟩
    refine ⟨1, v, rfl, rfl, 1 + v, rfl, by omega, by omega, fun B nB => ?_⟩
    have nB0 : H B = none := x1.f B nB
    have dB : d ≠ B := fun z => by obtain ⟨_, q⟩ := D1.some; rw [z, nB] at q; cases q
    refine lc_range (lo := 0) (n := (1 + v).toNat) (fun i H2 => ∃ cl : List Nat, H2 B = some (.lst ((cl.map sg).map V.str)) ∧ cl.length = i ∧ (∀ c ∈ cl, c ∈ abc.cps.toList) ∧ Ex [d] H H2 ∧ Deck H2 d (n + 1 + i)) ?_ ?_ ?_
    · exact ⟨[], upd_same, rfl, by simp, x1.trans (.new nB), D1.ex (.new nB (xs := [])) (by simp)⟩
    · intro i H2 hi ⟨cl, hB, hbl, hbs, x2, D2⟩
      refine ⟨rfl, ?_⟩
      refine ⟨.str abc, rfl, .ref d, rfl, d, 26, n + 1 + i, rfl, D2, by omega, by decide, by decide, fun H3 u hu0 hu1 x3 D3 => ?_⟩
      obtain ⟨c, hc1, hc2, _⟩ := abc_at u hu0 hu1
      have hB3 := x3.lst hB (by simpa using dB.symm)
      refine ⟨abc, u, c, rfl, rfl, by decide, hc1, (cl.map sg).map V.str, hB3, by rw [List.length_map, List.length_map]; exact Nat.lt_of_le_of_lt (show cl.length ≤ 10 by omega) (by decide), ?_⟩
      refine ⟨cl ++ [c], by rw [upd_same, List.map_append, List.map_append]; rfl, by rw [List.length_append, hbl]; rfl, fun b hb => ?_, Ex.own nB0 (x2.trans x3) (.put hB3 nt_lst (by simp)), D3.ex (.put (xs := [B]) hB3 nt_lst (by simp)) (by simpa using dB)⟩
      rcases List.mem_append.mp hb with z | z
      · exact hbs b z
      · rw [List.mem_singleton.mp z]; exact hc2
    · intro H2 ⟨bs, hB, hbl, hbs, x2, D2⟩
      have hl : 1 ≤ bs.length ∧ bs.length ≤ 6 := by omega
      refine ⟨.ref d, rfl, .ref B, rfl, B, _, rfl, .inl (.of hB), d, ((bs.map sg).map V.str).length, n + 1 + 6, rfl, D2.mono (by omega), by omega, by rw [List.length_map, List.length_map]; omega, by rw [List.length_map, List.length_map]; omega, fun H3 at_ ha0 ha1 x3 D3 => ?_⟩
      rw [List.length_map, List.length_map] at ha1
      refine ⟨.ref d, rfl, d, 26, n + 1 + 7, rfl, D3, by omega, by decide, by decide, fun H4 fi hf0 hf1 x4 D4 => ?_⟩
      refine ⟨.ref d, rfl, d, 2, n + 1 + 8, rfl, D4, by omega, by decide, by decide, fun H5 lo hl0 hl1 x5 D5 => ?_⟩
      refine ⟨Nat.zero_le _, fun G nG => ?_⟩
      have x25 : Ex [d] H H5 := ((x2.trans x3).trans x4).trans x5
      have nG0 : H G = none := x25.f G nG
      have hB5 : H5 B = some (.lst ((bs.map sg).map V.str)) := x5.lst (x4.lst (x3.lst hB (by simpa using dB.symm)) (by simpa using dB.symm)) (by simpa using dB.symm)
      have GB : G ≠ B := (ne_of_none hB5 nG).symm
      have Gd : d ≠ G := fun z => by obtain ⟨_, q⟩ := D5.some; rw [z, nG] at q; cases q
      refine ⟨.int m, rfl, m, rfl, by omega, by omega, for_range (lo := 0) (n := (m : Int).toNat) (fun i σ H6 => ∃ (cs : List Nat) (gs : List Str) (y : Option V), σ = [some (.ref d), some (.int m), some (.str abc), y, some (.ref B), some (.int at_), some (.int fi), some (.int lo), some (.ref G)] ∧
        H6 B = some (.lst ((cs.map sg).map V.str)) ∧ cs.length = bs.length ∧ (∀ b ∈ cs, b ∈ abc.cps.toList) ∧ H6 G = some (.lst (gs.map V.str)) ∧ gs.length = i ∧ (∀ z ∈ gs, NmG z) ∧
        (∀ (j : Nat) (z : Str), gs[j]? = some z → (TL.tl z)[1 + at_.toNat]? = abc.cps.toList[((fi + (j : Int)) % 26).toNat]?) ∧ (∀ z : Str, gs[0]? = some z → z.length ≤ 7) ∧ Ex [d] H H6 ∧ Deck H6 d (n + 10)) ?_ ?_ ?_⟩
      · refine ⟨bs, [], _, rfl, (Ex.new (xs := []) nG).lst hB5, rfl, hbs, upd_same, rfl, by simp, by simp, by simp, x25.trans (.new nG), (D5.ex (.new (xs := []) nG) (by simp)).mono (by omega)⟩
      · intro i σ H6 hi ⟨cs, gs, y, e, hc, hcl, hcs, hg, hgl, hgs, hix, hz0, x6, D6⟩
        subst e
        have ai : at_ < ((cs.map sg).map V.str).length := by rw [List.length_map, List.length_map, hcl]; exact ha1
        obtain ⟨c, hc1, hc2, hc3⟩ := abc_at ((fi + (0 + (i : Int))) % 26) (Int.emod_nonneg _ (by decide)) (Int.emod_lt_of_pos _ (by decide))
        refine ⟨.str abc, rfl, .int fi, rfl, .int (0 + (i : Int)), rfl, fi, _, rfl, rfl, _, 26, rfl, rfl, (by show (0 : Int) < 26; decide), abc, _, c, rfl, rfl, by decide, hc1, .ref B, rfl, .int at_, rfl, B, _, at_, at_.toNat, rfl, rfl, hc, ixN_of ha0 ai, ?_⟩
        rw [show (V.str ⟨#[c]⟩ : V) = V.str (sg c) from rfl, ← List.map_set (f := V.str) (a := sg c), ← List.map_set (f := sg) (a := c)]
        have at1 : at_.toNat < cs.length := by rw [hcl]; omega
        have cat : (cs.set at_.toNat c)[at_.toNat]? = some c := by rw [List.getElem?_set_self at1]
        have cl' : (cs.set at_.toNat c).length = bs.length := by rw [List.length_set, hcl]
        have co' : ∀ b ∈ cs.set at_.toNat c, b ∈ abc.cps.toList := fun b hb => by
          rcases List.mem_or_eq_of_mem_set hb with z | z
          · exact hcs b z
          · rw [z]; exact hc2
        generalize cs.set at_.toNat c = cs' at cat cl' co'
        have x7 : Ex [B, d] H6 (upd H6 B (.lst ((cs'.map sg).map V.str))) := .put hc nt_lst (by simp)
        have hB7 : (upd H6 B (.lst ((cs'.map sg).map V.str))) B = some (.lst ((cs'.map sg).map V.str)) := upd_same
        have hG7 : (upd H6 B (.lst ((cs'.map sg).map V.str))) G = some (.lst (gs.map V.str)) := by rw [upd_ne GB]; exact hg
        have D7 : Deck (upd H6 B (.lst ((cs'.map sg).map V.str))) d (n + 10) := D6.ex (.put (xs := [B]) hc nt_lst (by simp)) (by simpa using dB)
        have x07 : Ex [d] H (upd H6 B (.lst ((cs'.map sg).map V.str))) := Ex.own nB0 x6 x7
        have r0 : 0 ≤ (0 + (i : Int)) % 2 := Int.emod_nonneg _ (by decide)
        have r1 : (0 + (i : Int)) % 2 < 2 := Int.emod_lt_of_pos _ (by decide)
        have m0 : 0 ≤ (0 + (i : Int)) % 2 * lo := Int.mul_nonneg r0 hl0
        have m1 : (0 + (i : Int)) % 2 * lo ≤ 1 := by
          have : (0 + (i : Int)) % 2 * lo ≤ 1 * 1 := Int.mul_le_mul (by omega) (by omega) hl0 (by decide)
          omega
        have nok := name_ok m0 m1 (cl := cs') (by omega) (by omega) co'
        obtain ⟨zs, hzs, etl⟩ := name_tl cs' m0 m1
        have j2 : (Txt.join (Str.ofString "") (cs'.map sg)).length = cs'.length := by rw [TL.len_tl, join_sg]
        have q1 : (Str.ofString "q").length = 1 := by decide +kernel
        have k2 : (Txt.mul (Str.ofString "z") ((0 + (i : Int)) % 2 * lo)).length ≤ 1 := by
          rw [TL.len_tl]
          rcases zs_ok m0 m1 with e | e <;> rw [e] <;> simp
        refine ⟨.ref G, rfl, .inl ⟨rfl, _, .of hG7⟩, ⟨_, rfl⟩, .ref B, rfl, _, B, cs'.map sg, rfl, rfl, .inl (.of hB7), ?_, _, _, rfl, rfl, ?_, .int (0 + (i : Int)), rfl, _, 2, rfl, rfl, (by show (0 : Int) < 2; decide), .int lo, rfl, _, lo, rfl, rfl, .inr ⟨by omega, by omega⟩, _, _, rfl, rfl, (mul01 m0 m1).1, _, _, rfl, rfl, ?_, G, _, _, rfl, rfl, hG7, ?_, ?_⟩
        · rw [sg_sum, cl', show (Str.ofString "").length = 0 by decide +kernel]; omega
        · rw [q1, j2, cl']; exact Nat.le_trans (show 1 + bs.length ≤ 10 by omega) (by decide)
        · rw [len_add, q1, j2, cl']; exact Nat.le_trans (show 1 + bs.length + _ ≤ 10 by omega) (by decide)
        · rw [List.length_map, hgl]; exact Nat.lt_of_le_of_lt (show i ≤ 100 by omega) (by decide)
        · refine ⟨cs', gs ++ [Str.ofString "q" ++ Txt.join (Str.ofString "") (cs'.map sg) ++ Txt.mul (Str.ofString "z") ((0 + (i : Int)) % 2 * lo)], _, rfl, by rw [upd_ne GB.symm]; exact hB7, cl', co', by rw [upd_same, List.map_append]; rfl, by rw [List.length_append, hgl]; rfl, fun z hz => ?_, fun j z hz => ?_, fun z hz => ?_, Ex.own nG0 x07 (.put hG7 nt_lst (by simp)), D7.ex (.put (xs := [G]) hG7 nt_lst (by simp)) (by simpa using Gd)⟩
          · rcases List.mem_append.mp hz with z1 | z1
            · exact hgs z z1
            · rw [List.mem_singleton.mp z1]; exact nok
          · by_cases hj : j < gs.length
            · rw [List.getElem?_append_left hj] at hz
              exact hix j z hz
            · rw [List.getElem?_append_right (by omega)] at hz
              have hj2 : j - gs.length = 0 := by
                cases hq : j - gs.length with
                | zero => rfl
                | succ r => rw [hq] at hz; simp at hz
              have hj3 : j = i := by omega
              rw [hj2] at hz
              cases hz
              rw [etl, hj3, Nat.add_comm 1 at_.toNat, List.getElem?_cons_succ, List.getElem?_append_left (by rw [cl']; omega), cat, ← hc3, Int.zero_add]
          · by_cases hj : 0 < gs.length
            · rw [List.getElem?_append_left hj] at hz
              exact hz0 z hz
            · have hi0 : i = 0 := by omega
              rw [List.getElem?_append_right (by omega)] at hz
              have : (0 : Nat) - gs.length = 0 := by omega
              rw [this] at hz
              cases hz
              subst hi0
              have e0 : (0 + ((0 : Nat) : Int)) % 2 * lo = 0 := by simp
              rw [len_add, len_add, q1, j2, cl', e0]
              have : (Txt.mul (Str.ofString "z") 0).length = 0 := by decide +kernel
              omega
      · intro σ H6 ⟨cs, gs, y, e, hc, hcl, hcs, hg, hgl, hgs, hix, hz0, x6, D6⟩
        subst e
        refine ⟨.ref G, rfl, q H6 G gs nG0 x6 D6 hg (by omega) hgs ?_ hz0⟩
        rw [List.Nodup, List.pairwise_iff_getElem]
        intro i j hi hj hij e
        have h1 := hix i _ (List.getElem?_eq_getElem hi)
        have h2 := hix j _ (List.getElem?_eq_getElem hj)
        rw [e, h2] at h1
        have := abc_inj (by omega) (by omega) h1
        omega
end
end K03

namespace Kk
open PySem PySem.Spec PyProof.Rows L2
/-- a.update(b), both tracked -/
def rUpdate : V → List V → Hp → VK → Prop := fun x xs H Q => ∃ (a b : Addr) (kvs more : List (Key × V)), x = .ref a ∧ xs = [.ref b] ∧ a ≠ b ∧ H a = some (.dK kvs) ∧ H b = some (.dK more) ∧ kvs.length + more.length ≤ sizeLine ∧
  (mergeK kvs more).length ≤ sizeLine ∧ Q .non (upd H a (.dK (mergeK kvs more)))
theorem mt_update {X : Cx} : MtR X "dict.update" rUpdate := by
  intro pins s σ H x xs v us Q I rx rxs h
  obtain ⟨a, b, kvs, more, rfl, rfl, ne, ha, hb, hz, hz2, q⟩ := h
  cases (show v = Value.ref a from rx)
  cases rxs with
  | cons ry rt =>
    cases rt
    rename_i u
    cases (show u = Value.ref b from ry)
    obtain ⟨z1, s1, vs, r1, d1⟩ := dk_of I.hok ha
    obtain ⟨z2, s2, ws, r2, d2⟩ := dk_of I.hok hb
    refine call_meetsIn PySem.F.slot_dict_update d1.typeIs PySem.F.entry_dict_update (PySem.F.args_dict_update_2 _ _) (meets_dict_update (mixKind X.prog X.w) a b ne s2) ⟨vs, ws, d1, d2, ?_, fun h' m1 _ sb => ?_⟩
    · have e1 := Paired.length r1
      have e2 := Paired.length r2
      omega
    · have he : ∃ q, h'.get? a = some q := let ⟨q, _, _, hq, _⟩ := m1; ⟨q, hq⟩
      exact ⟨.non, _, d_write (t' := s.toks) I (by rw [ha]; exact True.intro) sb he (dk_new hz2 s1 (KV.merge r2 r1) m1), rfl, q⟩
theorem op_ne_nil {X : Cx} {k : Nat} (hr : Room k X.A) : OpR X (compareOp .NotEq) (fun x y H Q => ∃ a b xs, x = .ref a ∧ y = .ref b ∧ SqL X.K H a xs ∧ SqL X.K H b [] ∧ Q (.bl (!xs.isEmpty)) H) := by
  intro pins s σ H x y v u Q I rx ry h
  obtain ⟨a, b, xs, rfl, rfl, ha, hb, q⟩ := h
  cases (show v = Value.ref a from rx)
  cases (show u = Value.ref b from ry)
  obtain ⟨its, r, pl, hz⟩ := I.list ha
  obtain ⟨its2, r2, pl2, hz2⟩ := I.list hb
  have e2 : its2 = [] := List.length_eq_zero_iff.mp r2.length.symm
  subst e2
  cases xs with
  | nil =>
    have e1 : its = [] := List.length_eq_zero_iff.mp r.length.symm
    subst e1
    exact SeqAt.RcNeAt.lists (e := fun _ => true) pl.isList pl2.isList rfl hr.units0 (fun j h1 _ => absurd h1 (Nat.not_lt_zero j)) X.prog X.w X.xe _ ⟨.bl false, H, I, rfl, q⟩
  | cons z zs =>
    have e1 : its.length = zs.length + 1 := r.length.symm
    refine SeqAt.RcNeAt.lists_lengths pl.isList pl2.isList ?_ hr.units0 X.prog X.w X.xe _ ⟨.bl true, H, I, rfl, q⟩
    simp [e1]

/-! the words of the tongue, as data -/
structure Dm where
  boxes : List Str
  recs : List Str
  worths : List Str
  called : List Str
  known : List (Str × Nat × Nat)
/-- unlike ones of the boxes -/
def Sub (D : Dm) (xs : List Str) : Prop := ∃ rest, (xs ++ rest).Perm D.boxes
abbrev ts (x : Str) : PyData := .str x
abbrev tsL (xs : List Str) : PyData := .tuple (xs.map PyData.str)
inductive Wd (D : Dm) : Nat → Nat → PyData → Prop
  | take {n l : Nat} {x w : Str} : x ∈ D.boxes → w ∈ D.worths → Wd D n l (.tuple [ts "take", ts x, ts w])
  | ask {n l : Nat} {x : Str} : x ∈ D.boxes → Wd D n l (.tuple [ts "ask", ts x])
  | number {n l : Nat} {x : Str} {i : Int} : x ∈ D.boxes → 0 ≤ i → i ≤ 9999 → Wd D n l (.tuple [ts "number", ts x, .int i])
  | copy {n l : Nat} {x y : Str} : x ∈ D.boxes → y ∈ D.boxes → Wd D n l (.tuple [ts "copy", ts x, ts y])
  | mix {n l : Nat} {x y z : Str} : x ∈ D.boxes → y ∈ D.boxes → z ∈ D.boxes → Wd D n l (.tuple [ts "mix", ts x, ts y, ts z])
  | opens {n l : Nat} {x y : Str} : x ∈ D.boxes → y ∈ D.boxes → Wd D n l (.tuple [ts "open", ts x, ts y])
  | tell {n l : Nat} {x : Str} : x ∈ D.boxes → Wd D n l (.tuple [ts "tell", ts x])
  | wipe {n l : Nat} {x : Str} : x ∈ D.boxes → Wd D n l (.tuple [ts "wipe", ts x])
  | clear {n l : Nat} {r : Str} : r ∈ D.recs → Wd D n l (.tuple [ts "clear", ts r])
  | drop {n l : Nat} {xs : List Str} : Sub D xs → xs ≠ [] → Wd D n l (.tuple [ts "drop", tsL xs])
  | risk {n l : Nat} {f : Str} : f ∈ D.worths → Wd D n l (.tuple [ts "risk", ts f])
  | fault {n l : Nat} {f : Str} : f ∈ D.worths → Wd D n l (.tuple [ts "fault", ts f])
  | back {n l : Nat} : Wd D n l (.tuple [ts "back"])
  | out {n l : Nat} {i : Int} : 1 ≤ i → i ≤ (l : Int) → Wd D n l (.tuple [ts "out", .int i])
  | call {n l : Nat} {a : Str} {xs ys : List Str} : (a, xs.length, ys.length) ∈ D.known → Sub D xs → Sub D ys → Wd D n l (.tuple [ts "call", ts a, tsL xs, tsL ys])
  | choose {n l : Nat} {rows : List (List PyData)} : rows ≠ [] → rows.length ≤ 4 → (∀ ws ∈ rows, ws.length ≤ 3) → (∀ ws ∈ rows, ∀ w ∈ ws, Wd D n l w) → Wd D (n + 1) l (.tuple [ts "choose", .tuple (rows.map PyData.tuple)])
  | loop {n l : Nat} {ws : List PyData} : ws.length ≤ 3 → (∀ w ∈ ws, Wd D n (l + 1) w) → Wd D (n + 1) l (.tuple [ts "loop", .tuple ws])
end Kk
namespace K03
open PySem PySem.Spec PyProof.Rows L2 Kk
/-- where the parts of a kit stand -/
structure KitA where
  d : Addr
  b : Addr
  r : Addr
  wt : Addr
  c : Addr
  kn : Addr
abbrev ky (x : String) : Key := Sum.inr (Str.ofString x)
def kitL (Z : KitA) (left : Int) : List (Key × V) := [(ky "deck", .ref Z.d), (ky "boxes", .ref Z.b), (ky "records", .ref Z.r), (ky "worths", .ref Z.wt), (ky "called", .ref Z.c), (ky "known", .ref Z.kn), (ky "left", .int left)]
def knD (p : Str × Nat × Nat) : PyData := .tuple [.str p.1, .int p.2.1, .int p.2.2]
/-- a kit; each word that is left is worth twenty draws -/
structure Kit (K : PySem.W.Frag) (H : Hp) (kt : Addr) (Z : KitA) (D : Dm) (F : Int) : Prop where
  ex : ∃ (n : Nat) (left : Int), H kt = some (.dK (kitL Z left)) ∧ Deck H Z.d n ∧ 0 ≤ left ∧ (n : Int) + 20 * left ≤ F
  b : H Z.b = some (.lst (D.boxes.map V.str))
  r : H Z.r = some (.lst (D.recs.map V.str))
  wt : H Z.wt = some (.lst (D.worths.map V.str))
  c : H Z.c = some (.lst (D.called.map V.str))
  kn : ∃ ks, H Z.kn = some (.lst ks) ∧ TpAll K H ks (D.known.map knD)
  nb : Z.b ≠ Z.d
  nr : Z.r ≠ Z.d
  nw : Z.wt ≠ Z.d
  nc : Z.c ≠ Z.d
  nk : Z.kn ≠ Z.d
  nkx : Z.kn ≠ Z.b ∧ Z.kn ≠ Z.r ∧ Z.kn ≠ Z.wt ∧ Z.kn ≠ Z.c
  len : D.boxes.length = 6
  rl : D.recs ≠ []
  wl : D.worths ≠ []
  wl2 : D.worths.length ≤ 1000 ∧ D.recs.length ≤ 1000 ∧ D.known.length ≤ 100
  small : ∀ p ∈ D.known, p.2.1 ≤ 4 ∧ p.2.2 ≤ 4
theorem val_deck {Z : KitA} {n : Int} : valV (kitL Z n) (ky "deck") = some (.ref Z.d) := by rfl
theorem val_boxes {Z : KitA} {n : Int} : valV (kitL Z n) (ky "boxes") = some (.ref Z.b) := by rfl
theorem val_records {Z : KitA} {n : Int} : valV (kitL Z n) (ky "records") = some (.ref Z.r) := by rfl
theorem val_worths {Z : KitA} {n : Int} : valV (kitL Z n) (ky "worths") = some (.ref Z.wt) := by rfl
theorem val_called {Z : KitA} {n : Int} : valV (kitL Z n) (ky "called") = some (.ref Z.c) := by rfl
theorem val_known {Z : KitA} {n : Int} : valV (kitL Z n) (ky "known") = some (.ref Z.kn) := by rfl
theorem val_left {Z : KitA} {n : Int} : valV (kitL Z n) (ky "left") = some (.int n) := by rfl
theorem put_left {Z : KitA} {n m : Int} : putK (kitL Z n) (ky "left") (.int m) = kitL Z m := by rfl
end K03

namespace Kk
open PySem PySem.Spec PyProof.Rows L2
theorem pe_bmK {X : Cx} {K : PySem.W.Frag} {o e : Expr} {es : List Expr} {to : TE} {t : TA} {name : Str} {apos cpos : Pos} {T id : String} {r : V → List V → Hp → VK → Prop} (h : X.K = K) (pa : PlainAttrs T) (slot : Slot T name id) (hty : typeOf (.builtin id) = pure (.type "method_descriptor")) (hm : MtR X id r) (ho : PE X o to) (ha : PA X (e :: es) t)
    (h1 : attributeBase o name X.env (eval o X.env) = eval o X.env := by rfl)
    (h2 : ((backTo cpos (starEach (e :: es) X.env)).all (fun x => !x.1) && (backToKw cpos (keywordEach [] X.env)).all (fun x => x.1.isSome) && decide ((e :: es).length + ([] : List Keyword).length + (if ([] : List Keyword).isEmpty then 0 else 1) < 30)) = true := by rfl)
    (h3 : (apos.endLine == cpos.line) = true := by rfl) (h4 : starEach (e :: es) X.env = (false, eval e X.env) :: starEach es X.env := by rfl) (h5 : (backTo cpos (starEach es X.env)).any (·.1) = false := by rfl) :
    PE X (.Call (.Attribute o name apos) (e :: es) [] cpos) (tBM K T r to t) := by
  subst h
  exact pe_bm pa slot hty hm ho ha h1 h2 h3 h4 h5
end Kk
namespace K03
open PySem PySem.Spec PyProof.Rows L2 Kk
section
variable {K : PySem.W.Frag} {H H' : Hp} {kt : Addr} {Z : KitA} {D : Dm} {F : Int}
theorem Kit.deck (h : Kit K H kt Z D F) : DGet H kt (.str (Str.ofString "deck")) (some (.ref Z.d)) := by
  obtain ⟨n, l, hk, _⟩ := h.ex
  have q := DGet.k (k := ky "deck") hk
  rw [val_deck] at q; exact q
theorem Kit.boxes (h : Kit K H kt Z D F) : DGet H kt (.str (Str.ofString "boxes")) (some (.ref Z.b)) := by
  obtain ⟨n, l, hk, _⟩ := h.ex
  have q := DGet.k (k := ky "boxes") hk
  rw [val_boxes] at q; exact q
theorem Kit.records (h : Kit K H kt Z D F) : DGet H kt (.str (Str.ofString "records")) (some (.ref Z.r)) := by
  obtain ⟨n, l, hk, _⟩ := h.ex
  have q := DGet.k (k := ky "records") hk
  rw [val_records] at q; exact q
theorem Kit.worths (h : Kit K H kt Z D F) : DGet H kt (.str (Str.ofString "worths")) (some (.ref Z.wt)) := by
  obtain ⟨n, l, hk, _⟩ := h.ex
  have q := DGet.k (k := ky "worths") hk
  rw [val_worths] at q; exact q
theorem Kit.called (h : Kit K H kt Z D F) : DGet H kt (.str (Str.ofString "called")) (some (.ref Z.c)) := by
  obtain ⟨n, l, hk, _⟩ := h.ex
  have q := DGet.k (k := ky "called") hk
  rw [val_called] at q; exact q
theorem Kit.known (h : Kit K H kt Z D F) : DGet H kt (.str (Str.ofString "known")) (some (.ref Z.kn)) := by
  obtain ⟨n, l, hk, _⟩ := h.ex
  have q := DGet.k (k := ky "known") hk
  rw [val_known] at q; exact q
theorem Kit.kd (h : Kit K H kt Z D F) : kt ≠ Z.d := by
  obtain ⟨n, l, hk, ⟨a, b, c, hd, _⟩, _⟩ := h.ex
  exact ne_of hk hd (fun z => by cases z)
theorem Kit.mono {F' : Int} (h : Kit K H kt Z D F) (le : F ≤ F') : Kit K H kt Z D F' := by
  obtain ⟨n, l, h1, h2, h3, h4⟩ := h.ex
  exact { h with ex := ⟨n, l, h1, h2, h3, by omega⟩ }
/-- what else is made or changed leaves a kit alone -/
theorem Kit.keep {xs : List Addr} (h : Kit K H kt Z D F) (e : Ex xs H H') (n : ∀ a ∈ xs, H a = none) : Kit K H' kt Z D F := by
  have no : ∀ {a : Addr} {o : HO}, H a = some o → a ∉ xs := fun {a o} ha m => by rw [n a m] at ha; cases ha
  obtain ⟨m, l, h1, h2, h3, h4⟩ := h.ex
  obtain ⟨ks, k1, k2⟩ := h.kn
  obtain ⟨dx, hd⟩ := h2.some
  exact { h with
    ex := ⟨m, l, e.dK h1 (no h1), h2.ex e (no hd), h3, h4⟩
    b := e.lst h.b (no h.b)
    r := e.lst h.r (no h.r)
    wt := e.lst h.wt (no h.wt)
    c := e.lst h.c (no h.c)
    kn := ⟨ks, e.lst k1 (no k1), k2.ex e⟩ }
def parts (kt : Addr) (Z : KitA) : List Addr := [Z.d, Z.b, Z.r, Z.wt, Z.c, Z.kn, kt]
theorem Kit.off {p : Addr} (h : Kit K H kt Z D F) (n : H p = none) : p ∉ parts kt Z := fun m => by
  obtain ⟨n1, l, h1, h2, h3, h4⟩ := h.ex
  obtain ⟨ks, k1, k2⟩ := h.kn
  obtain ⟨dx, hd⟩ := h2.some
  unfold parts at m
  simp only [List.mem_cons, List.not_mem_nil, or_false] at m
  rcases m with rfl | rfl | rfl | rfl | rfl | rfl | rfl
  · rw [hd] at n; cases n
  · rw [h.b] at n; cases n
  · rw [h.r] at n; cases n
  · rw [h.wt] at n; cases n
  · rw [h.c] at n; cases n
  · rw [k1] at n; cases n
  · rw [h1] at n; cases n
theorem Kit.keepP {xs : List Addr} (h : Kit K H kt Z D F) (e : Ex xs H H') (n : ∀ a ∈ xs, a ∉ parts kt Z) : Kit K H' kt Z D F := by
  have no : ∀ a : Addr, a ∈ parts kt Z → a ∉ xs := fun a ha m => n a m ha
  obtain ⟨m, l, h1, h2, h3, h4⟩ := h.ex
  obtain ⟨ks, k1, k2⟩ := h.kn
  exact { h with
    ex := ⟨m, l, e.dK h1 (no _ (by simp [parts])), h2.ex e (no _ (by simp [parts])), h3, h4⟩
    b := e.lst h.b (no _ (by simp [parts]))
    r := e.lst h.r (no _ (by simp [parts]))
    wt := e.lst h.wt (no _ (by simp [parts]))
    c := e.lst h.c (no _ (by simp [parts]))
    kn := ⟨ks, e.lst k1 (no _ (by simp [parts])), k2.ex e⟩ }
theorem Kit.keep0 (h : Kit K H kt Z D F) (e : Ex [] H H') : Kit K H' kt Z D F := h.keep e fun _ m => by cases m
/-- a draw by the kit's deck -/
theorem Kit.dr (h : Kit K H kt Z D F) (hF : F ≤ 100000) : ∃ n : Nat, Deck H Z.d n ∧ n ≤ 1000000 ∧ ∀ H', Ex [Z.d] H H' → Deck H' Z.d (n + 1) → Ex [Z.d, kt] H H' ∧ Kit K H' kt Z D (F + 1) := by
  obtain ⟨n, l, h1, h2, h3, h4⟩ := h.ex
  obtain ⟨ks, k1, k2⟩ := h.kn
  refine ⟨n, h2, by omega, fun H' e D2 => ⟨e.mono fun b hb => by simp at hb; simp [hb], ?_⟩⟩
  have no : ∀ a : Addr, a ≠ Z.d → a ∉ [Z.d] := fun a ha m => ha (List.mem_singleton.mp m)
  exact { h with
    ex := ⟨n + 1, l, e.dK h1 (no _ h.kd), D2, h3, by omega⟩
    b := e.lst h.b (no _ h.nb)
    r := e.lst h.r (no _ h.nr)
    wt := e.lst h.wt (no _ h.nw)
    c := e.lst h.c (no _ h.nc)
    kn := ⟨ks, e.lst k1 (no _ h.nk), k2.ex e⟩ }
/-- how many words are left -/
theorem Kit.left (h : Kit K H kt Z D F) : ∃ l : Int, DGet H kt (.str (Str.ofString "left")) (some (.int l)) ∧ 0 ≤ l ∧
    (∀ m : Int, 0 ≤ m → ∃ H2, DPut H kt (.str (Str.ofString "left")) (.int m) H2 ∧ Ex [Z.d, kt] H H2 ∧ Kit K H2 kt Z D (F - 20 * l + 20 * m)) := by
  obtain ⟨n, l, hk, h2, h3, h4⟩ := h.ex
  obtain ⟨ks, k1, k2⟩ := h.kn
  have q := DGet.k (k := ky "left") hk
  rw [val_left] at q
  refine ⟨l, q, h3, fun m hm => ?_⟩
  have p := DPut.k (k := ky "left") (v := .int m) hk (by show (kitL Z l).length < sizeLine; show 7 < sizeLine; decide)
  rw [put_left] at p
  have e : Ex [kt] H (upd H kt (.dK (kitL Z m))) := .put hk nt_dK (by simp)
  have no : ∀ {a : Addr} {xs : List V}, H a = some (.lst xs) → a ∉ [kt] := fun {a xs} ha mm => by
    rw [List.mem_singleton.mp mm, hk] at ha; cases ha
  obtain ⟨dx, hd⟩ := h2.some
  refine ⟨_, p, e.mono fun b hb => by simp at hb; simp [hb], { h with
    ex := ⟨n, m, upd_same, h2.ex e (no hd), hm, by omega⟩
    b := e.lst h.b (no h.b)
    r := e.lst h.r (no h.r)
    wt := e.lst h.wt (no h.wt)
    c := e.lst h.c (no h.c)
    kn := ⟨ks, e.lst k1 (no k1), k2.ex e⟩ }⟩
end
abbrev s_some : Stmt := topS 14
abbrev n_some : List Str := ["_law_kit_here", "_law_things"]
theorem sc_some : FnScope n_some ["_law_kit_here", "_law_things"] (defScope s_some) := ⟨rfl, rfl, rfl, by decide +kernel, rfl, by decide +kernel, by decide +kernel⟩
abbrev s_unlike : Stmt := topS 15
abbrev n_unlike : List Str := ["_law_kit_here", "_law_many_here", "_law_left", "_law_k"]
theorem sc_unlike : FnScope n_unlike ["_law_kit_here", "_law_many_here"] (defScope s_unlike) := ⟨rfl, rfl, rfl, by decide +kernel, rfl, by decide +kernel, by decide +kernel⟩
theorem map_erase (ls : List Str) (i : Nat) : (ls.map V.str).eraseIdx i = (ls.eraseIdx i).map V.str := by
  induction ls generalizing i with
  | nil => rfl
  | cons x ls ih =>
    cases i with
    | zero => rfl
    | succ i => simp only [List.map_cons, List.eraseIdx_cons_succ, ih]
theorem erase_perm : ∀ (l : List Str) (i : Nat) (h : i < l.length), (l[i] :: l.eraseIdx i).Perm l
  | x :: l, 0, _ => List.Perm.refl _
  | x :: l, i + 1, h => by
    have := erase_perm l i (by simpa using h)
    simp only [List.getElem_cons_succ, List.eraseIdx_cons_succ]
    exact (List.Perm.swap _ _ _).trans (List.Perm.cons _ this)
theorem mem_at {xs : List V} {v : Int} (h0 : 0 ≤ v) (h1 : v < xs.length) : ∃ z ∈ xs, atI xs v = some z := by
  have hv : v.toNat < xs.length := by omega
  refine ⟨xs[v.toNat], List.getElem_mem _, ?_⟩
  have := atI_nat (List.getElem?_eq_getElem hv)
  rwa [Int.toNat_of_nonneg h0] at this
section
variable {P : Program} {w : World} {K : PySem.W.Frag} {mg : Str → Option Value} {base : Heap}
def spSome (K : PySem.W.Frag) : Sp := fun vs H Q _ => ∃ (kt l : Addr) (Z : KitA) (D : Dm) (F : Int) (xs : List V), vs = [.ref kt, .ref l] ∧ Kit K H kt Z D F ∧ F ≤ 100000 ∧ H l = some (.lst xs) ∧ l ≠ Z.d ∧ xs ≠ [] ∧ xs.length ≤ 1000 ∧
  ∀ H' v, v ∈ xs → Ex [Z.d, kt] H H' → Kit K H' kt Z D (F + 1) → Q v H'
theorem ok_some {f fD : Addr} {fd fdD : FuncData} {k : Nat} (F : Fun K "_law_some" "_law_some" s_some f fd) (C__law_draw : Cl P w K mg base k "_law_draw" ["_law_deck_here", "_law_many_here"] spDraw fD fdD) (m_len : mg "len" = none) :
    FnOk P w K mg base CX0 (k + 1) f fd ["_law_kit_here", "_law_things"] (spSome K) := by
  refine F.ok sc_some (fun vs H Q E h => ?_) (fun cdv A outer s H vs Q E hr h => ?_)
  · obtain ⟨kt, l, Z, D, F, xs, rfl, _⟩ := h; rfl
  · obtain ⟨kt, l, Z, D, F, xs, rfl, hK, hF, hl, ld, x0, xl, q⟩ := h
    refine ⟨_, (pss_one (ps_ret (pe_ix ix_list (pv 1) (pe_call C__law_draw.g hr (by rfl) C__law_draw.m C__law_draw.k C__law_draw.b .nil pass0 (pa_cons (pe_dget (hu_of hr) (pv 0) pe_str (fun _ _ => rfl)) (pa_cons (pe_callB call_len_seq (by rfl) m_len PySem.boot_len (pa_cons (pv 1) pa_nil)) pa_nil))) (fun _ _ => rfl)))), ?_⟩
    have hlen : 1 ≤ xs.length := List.length_pos_iff.mpr x0
    have lk : l ≠ kt := fun z => by
      obtain ⟨n, lf, hk, _⟩ := hK.ex
      rw [z, hk] at hl; cases hl
    obtain ⟨n, d1, hn, st⟩ := hK.dr hF
    refine ⟨.ref l, rfl, .ref kt, rfl, kt, _, rfl, hK.deck, .ref l, rfl, l, xs, rfl, .inl (.of hl), Z.d, _, n, rfl, d1, hn, by omega, by omega, fun H' v v0 v1 e0 d2 => ?_⟩
    obtain ⟨e, K2⟩ := st H' e0 d2
    obtain ⟨z, hz, hz2⟩ := mem_at v0 v1
    exact ⟨l, xs, v, z, rfl, rfl, .of (e.lst hl (by simp [ld, lk])), hz2, q H' z hz e K2⟩
def spUnlike (K : PySem.W.Frag) : Sp := fun vs H Q _ => ∃ (kt : Addr) (Z : KitA) (D : Dm) (F : Int) (m : Nat), vs = [.ref kt, .int m] ∧ Kit K H kt Z D F ∧ F ≤ 90000 ∧ m ≤ 6 ∧
  ∀ H' v xs, Tp K H' v (tsL xs) → Sub D xs → xs.length = m → Ex [Z.d, kt] H H' → Kit K H' kt Z D (F + m) → Q v H'
theorem ok_unlike {f fD : Addr} {fd fdD : FuncData} {k : Nat} (F : Fun K "_law_unlike" "_law_unlike" s_unlike f fd) (C__law_draw : Cl P w K mg base k "_law_draw" ["_law_deck_here", "_law_many_here"] spDraw fD fdD)
    (m_len : mg "len" = none) (m_list : mg "list" = none) (m_tuple : mg "tuple" = none) (m_range : mg "range" = none) : FnOk P w K mg base CX0 (k + 1) f fd ["_law_kit_here", "_law_many_here"] (spUnlike K) := by
  refine F.ok sc_unlike (fun vs H Q E h => ?_) (fun cdv A outer s H vs Q E hr h => ?_)
  · obtain ⟨kt, Z, D, F, m, rfl, _⟩ := h; rfl
  · obtain ⟨kt, Z, D, F, m, rfl, hK, hF, hm, q⟩ := h
    refine ⟨_, (pss_cons (ps_set (i := 2) sc_unlike.nd rfl (.inr rfl) (pe_callTy call_list_of (by rfl) m_list (by decide +kernel) (pa_cons (pe_dget (hu_of hr) (pv 0) pe_str (fun _ _ => rfl)) pa_nil)))
      (pss_one (ps_ret (pe_callTy call_tuple_of (by rfl) m_tuple (by decide +kernel) (pa_cons (pe_lc (own := [("_law_k", 3)]) (g := gName 3) (tt := tYes) rfl sc_unlike.nd (pi_range1 (by rfl) m_range (pa_cons (pv 1) pa_nil)) (blkOk_by (N := n_unlike) (sc := defScope s_unlike) (by decide +kernel)) (fun _ _ _ _ _ => pg_name (i := 3) sc_unlike.nd rfl (Or.inl rfl)) (fun _ _ _ _ _ => pts_nil) (fun _ _ _ _ _ => (pe_bmK (K := K) rfl PySem.F.plainAttrs_list PySem.F.slot_list_pop PySem.F.type_list_pop mt_popAt (pv 2) (pa_cons (pe_call C__law_draw.g hr (by rfl) C__law_draw.m C__law_draw.k C__law_draw.b .nil pass0 (pa_cons (pe_dget (hu_of hr) (pv 0) pe_str (fun _ _ => rfl)) (pa_cons (pe_callB (call_lenK (K := K) rfl) (by rfl) m_len PySem.boot_len (pa_cons (pv 2) pa_nil)) pa_nil))) pa_nil)))) pa_nil))))), ?_⟩
    refine ⟨.ref kt, rfl, kt, _, rfl, hK.boxes, Z.b, _, rfl, .inl (.of hK.b), fun L nL => ?_⟩
    have x1 : Ex [Z.d, kt] H (upd H L (.lst (D.boxes.map V.str))) := .new nL
    have K1 : Kit K (upd H L (.lst (D.boxes.map V.str))) kt Z D F := hK.keep0 (.new nL)
    refine ⟨.int m, rfl, m, rfl, by omega, by omega, fun B nB => ?_⟩
    have LB : L ≠ B := ne_of_none upd_same nB
    have Lk : ∀ {H9 : Hp} {ls : List V}, H9 L = some (.lst ls) → ∀ {F9 : Int}, Kit K H9 kt Z D F9 → L ≠ kt := fun h9 _ k9 z => by
      obtain ⟨n, lf, hk, _⟩ := k9.ex
      rw [z, hk] at h9; cases h9
    have Ld : L ≠ Z.d := fun z => by
      obtain ⟨n, lf, _, h2, _⟩ := hK.ex
      obtain ⟨_, q⟩ := h2.some
      rw [← z, nL] at q; cases q
    have Bd : B ≠ Z.d := fun z => by
      obtain ⟨n, lf, _, h2, _⟩ := K1.ex
      obtain ⟨_, q⟩ := h2.some
      rw [← z, nB] at q; cases q
    have Bk : B ≠ kt := fun z => by
      obtain ⟨n, lf, hk, _⟩ := K1.ex
      rw [← z, nB] at hk; cases hk
    refine lc_range (lo := 0) (n := (m : Int).toNat) (fun i H2 => ∃ xs ls : List Str, H2 B = some (.lst (xs.map V.str)) ∧ H2 L = some (.lst (ls.map V.str)) ∧ xs.length = i ∧ (xs ++ ls).Perm D.boxes ∧ Ex [Z.d, kt] H H2 ∧ Kit K H2 kt Z D (F + i)) ?_ ?_ ?_
    · refine ⟨[], D.boxes, upd_same, by rw [upd_ne LB, upd_same], rfl, List.Perm.refl _, x1.trans (.new nB), ?_⟩
      exact (K1.keep0 (.new nB)).mono (by omega)
    · intro i H2 hi ⟨xs, ls, hB, hL, hxl, hp, x2, K2⟩
      have hll : ls.length = 6 - i := by
        have := hp.length_eq
        rw [List.length_append, K2.len] at this; omega
      refine ⟨rfl, ?_⟩
      obtain ⟨nn, d1, hn, st⟩ := K2.dr (by omega)
      refine ⟨.ref L, rfl, .inl ⟨rfl, _, .of hL⟩, .ref kt, rfl, kt, _, rfl, K2.deck, .ref L, rfl, L, _, rfl, .inl (.of hL), Z.d, _, nn, rfl, d1, hn, by rw [List.length_map]; omega, by rw [List.length_map]; omega, fun H3 u u0 u1 e0 d2 => ?_⟩
      obtain ⟨x3, K3⟩ := st H3 e0 d2
      rw [List.length_map] at u1
      have hu : u.toNat < ls.length := by omega
      have hL3 := x3.lst hL (by simp [Ld, Lk hL K2])
      have hB3 := x3.lst hB (by simp [Bd, Bk])
      have hix : ixN (ls.map V.str).length u = some u.toNat := ixN_of u0 (by rw [List.length_map]; exact u1)
      have hget : (ls.map V.str)[u.toNat]? = some (.str ls[u.toNat]) := by rw [List.getElem?_map, List.getElem?_eq_getElem hu]; rfl
      refine ⟨L, _, u, u.toNat, _, rfl, rfl, hL3, by omega, by omega, (ixN_seq hix).1, hget, xs.map V.str, by rw [upd_ne LB.symm]; exact hB3, by rw [List.length_map]; exact Nat.lt_of_le_of_lt (show xs.length ≤ 10 by omega) (by decide), ?_⟩
      have x4 : Ex [L] H3 (upd H3 L (.lst ((ls.map V.str).eraseIdx u.toNat))) := .put hL3 nt_lst (by simp)
      have hB4 : (upd H3 L (.lst ((ls.map V.str).eraseIdx u.toNat))) B = some (.lst (xs.map V.str)) := by rw [upd_ne LB.symm]; exact hB3
      have x5 : Ex [B] (upd H3 L (.lst ((ls.map V.str).eraseIdx u.toNat))) (upd (upd H3 L (.lst ((ls.map V.str).eraseIdx u.toNat))) B (.lst (xs.map V.str ++ [.str ls[u.toNat]]))) := .put hB4 nt_lst (by simp)
      refine ⟨xs ++ [ls[u.toNat]], ls.eraseIdx u.toNat, by rw [upd_same, List.map_append]; rfl, ?_, by rw [List.length_append, hxl]; rfl, ?_, ?_, ?_⟩
      · rw [upd_ne LB, upd_same, map_erase]
      · rw [List.append_assoc]
        exact (List.Perm.append_left xs (erase_perm ls u.toNat hu)).trans hp
      · exact Ex.own ((Ex.new (xs := []) nL).f B nB) (Ex.own nL (x2.trans x3) (x4.mono fun b hb => by simp at hb; simp [hb])) (x5.mono fun b hb => by simp at hb; simp [hb])
      · have K5 := (K3.keepP x4 (fun a ha => by rw [List.mem_singleton.mp ha]; exact hK.off nL)).keepP x5 (fun a ha => by rw [List.mem_singleton.mp ha]; exact hK.off ((Ex.new (xs := []) nL).f B nB))
        exact K5.mono (by omega)
    · intro H2 ⟨xs, ls, hB, hL, hxl, hp, x2, K2⟩
      refine ⟨B, _, rfl, .inl ⟨.of hB, fun p np => ?_⟩⟩
      refine q _ _ xs (.tup (.of upd_same) (TpAll.strs xs)) ⟨ls, hp⟩ (by omega) (x2.trans (.new np)) ?_
      have := (K2.keep0 (Ex.new (o := .tup (xs.map V.str)) np))
      exact this.mono (by omega)
end
end K03

set_option maxHeartbeats 4000000
namespace Kk
theorem itD {p A B : Prop} [Decidable p] (h : p) (a : A) : if decide p = true then A else B := by rw [if_pos (decide_eq_true h)]; exact a
theorem itN {p A B : Prop} [Decidable p] (h : ¬ p) (b : B) : if decide p = true then A else B := by rw [if_neg (by rw [decide_eq_false h]; exact Bool.false_ne_true)]; exact b
end Kk
namespace K03
open PySem PySem.Spec PyProof.Rows L2 Kk
abbrev s_row : Stmt := topS 16
abbrev n_row : List Str := ["_law_kit_here", "_law_deep", "_law_many_here", "_law_loops", "_law_row_here", "_law_k"]
theorem sc_row : FnScope n_row ["_law_kit_here", "_law_deep", "_law_many_here", "_law_loops"] (defScope s_row) := ⟨rfl, rfl, rfl, by decide +kernel, rfl, by decide +kernel, by decide +kernel⟩
abbrev s_word : Stmt := topS 17
abbrev n_word : List Str := ["_law_kit_here", "_law_deep", "_law_loops", "_law_way", "_law_x", "_law_y", "_law_z", "_law_words", "_law_name", "_law_takes", "_law_gives", "_law_rows", "_law_k"]
theorem sc_word : FnScope n_word ["_law_kit_here", "_law_deep", "_law_loops", "_law_way"] (defScope s_word) := ⟨rfl, rfl, rfl, by decide +kernel, rfl, by decide +kernel, by decide +kernel⟩

section
variable {P : Program} {w : World} {K : PySem.W.Frag} {mg : Str → Option Value} {base : Heap}
def spWord (K : PySem.W.Frag) (n : Nat) : Sp := fun vs H Q _ => ∃ (kt : Addr) (Z : KitA) (D : Dm) (F : Int) (deep loops : Nat) (way : Int), vs = [.ref kt, .int deep, .int loops, .int way] ∧ Kit K H kt Z D F ∧ F + 1000 * (n : Int) ≤ 50000 ∧ deep + n = 4 ∧ loops + n ≤ 4 ∧ 0 ≤ way ∧ way < 20 ∧
  ∀ H' v wd, Ex [Z.d, kt] H H' → Kit K H' kt Z D (F + 19) → Tp K H' v wd → Wd D n loops wd → Q v H'
def spRow (K : PySem.W.Frag) (n : Nat) : Sp := fun vs H Q _ => ∃ (kt : Addr) (Z : KitA) (D : Dm) (F : Int) (deep many loops : Nat), vs = [.ref kt, .int deep, .int many, .int loops] ∧ Kit K H kt Z D F ∧ F + 1000 * (n : Int) ≤ 50000 ∧ deep + n = 4 ∧ loops + n ≤ 4 ∧ many ≤ 20 ∧
  ∀ H' v ws, Ex [Z.d, kt] H H' → Kit K H' kt Z D F → Tp K H' v (.tuple ws) → ws.length ≤ many → (∀ x ∈ ws, Wd D n loops x) → Q v H'
theorem ok_row {f fD fW : Addr} {fd fdD fdW : FuncData} {k n : Nat} (F : Fun K "_law_row" "_law_row" s_row f fd) (C__law_draw : Cl P w K mg base k "_law_draw" ["_law_deck_here", "_law_many_here"] spDraw fD fdD)
    (C__law_word : Cl P w K mg base k "_law_word" ["_law_kit_here", "_law_deep", "_law_loops", "_law_way"] (spWord K n) fW fdW) (m_range : mg "range" = none) :
    FnOk P w K mg base CX0 (k + 1) f fd ["_law_kit_here", "_law_deep", "_law_many_here", "_law_loops"] (spRow K n) := by
  refine F.ok sc_row (fun vs H Q E h => ?_) (fun cdv A outer s H vs Q E hr h => ?_)
  · obtain ⟨kt, Z, D, F, deep, many, loops, rfl, _⟩ := h; rfl
  · obtain ⟨kt, Z, D, F, deep, many, loops, rfl, hK, hF, hd, hl, hm, q⟩ := h
    refine ⟨_, (pss_cons (ps_set (i := 4) sc_row.nd rfl (.inl rfl) (pe_tup pa_nil))
      (pss_cons (ps_for PassesOwn.never rfl (pi_range1 (by rfl) m_range (pa_cons (pv 2) pa_nil)) (pg_name (i := 5) sc_row.nd rfl (.inl rfl)) (pss_one (ps_if (pt_cmpR op_gt (pe_dget (hu_of hr) (pv 0) pe_str (fun _ _ => rfl)) pe_int (nomark _)) (pss_cons (ps_dput (hu_of hr) (pv 0) pe_str (pe_op op_sub (pe_dget (hu_of hr) (pv 0) pe_str (fun _ _ => rfl)) pe_int) rfl)
      (pss_one (ps_set (i := 4) sc_row.nd rfl (.inl rfl) (pe_op op_catA (pv 4) (pe_tup (pa_cons (pe_call C__law_word.g hr (by rfl) C__law_word.m C__law_word.k C__law_word.b .nil pass0 (pa_cons (pv 0) (pa_cons (pv 1) (pa_cons (pv 3) (pa_cons (pe_call C__law_draw.g hr (by rfl) C__law_draw.m C__law_draw.k C__law_draw.b .nil pass0 (pa_cons (pe_dget (hu_of hr) (pv 0) pe_str (fun _ _ => rfl)) (pa_cons pe_int pa_nil))) pa_nil))))) pa_nil)))))) pss_nil)))
      (pss_one (ps_ret (pv 4))))), ?_⟩
    refine ⟨(by show 0 ≤ sizeLine; decide), fun t0 n0 => ?_⟩
    have x0 : Ex [Z.d, kt] H (upd H t0 (.tup [])) := .new n0
    refine ⟨.int many, rfl, many, rfl, by omega, by omega, for_range (lo := 0) (n := (many : Int).toNat) (fun i σ H2 => ∃ (v : V) (ws : List PyData) (y : Option V), σ = [some (.ref kt), some (.int deep), some (.int many), some (.int loops), some v, y] ∧ Ex [Z.d, kt] H H2 ∧ Kit K H2 kt Z D F ∧ Tp K H2 v (.tuple ws) ∧ ws.length ≤ i ∧ ∀ x ∈ ws, Wd D n loops x) ?_ ?_ ?_⟩
    · exact ⟨.ref t0, [], _, rfl, x0, hK.keep0 (.new n0), .tup (.of upd_same) .nil, Nat.le_refl _, by simp⟩
    · intro i σ H2 hi ⟨v, ws, y, es, x2, K2, tv, hwl, hws⟩
      subst es
      obtain ⟨lf, g1, l0, pt⟩ := K2.left
      refine ⟨.ref kt, rfl, kt, _, rfl, g1, lf, 0, rfl, rfl, _, rfl, ?_⟩
      by_cases hlf : 0 < lf
      · refine itD hlf ?_
        obtain ⟨H3, p3, x3, K3⟩ := pt (lf - 1) (by omega)
        refine ⟨.ref kt, rfl, kt, _, rfl, g1, lf, 1, rfl, rfl, .ref kt, rfl, kt, H3, rfl, p3, ?_⟩
        have K3' : Kit K H3 kt Z D (F - 20) := K3.mono (by omega)
        obtain ⟨nn, d1, hn, st⟩ := K3'.dr (by omega)
        refine ⟨v, rfl, .ref kt, rfl, .int deep, rfl, .int loops, rfl, .ref kt, rfl, kt, _, rfl, K3'.deck, Z.d, 20, nn, rfl, d1, hn, by decide, by decide, fun H4 u u0 u1 e0 d2 => ?_⟩
        obtain ⟨x4, K4⟩ := st H4 e0 d2
        refine ⟨kt, Z, D, F - 20 + 1, deep, loops, u, rfl, K4, by omega, hd, hl, u0, u1, fun H5 v5 w5 x5 K5 t5 h5 => ?_⟩
        have K5' : Kit K H5 kt Z D F := K5.mono (by omega)
        refine ⟨(by show 1 ≤ sizeLine; decide), fun t6 n6 => ?_⟩
        have x6 : Ex [Z.d, kt] H5 (upd H5 t6 (.tup [v5])) := .new n6
        have tv6 : Tp K (upd H5 t6 (.tup [v5])) v (.tuple ws) := ((((tv.ex x3).ex x4).ex x5).ex x6)
        have tw6 := Tp.new n6 (TpAll.cons t5 .nil)
        have K6 : Kit K (upd H5 t6 (.tup [v5])) kt Z D F := K5'.keep0 (.new n6)
        have xx : Ex [Z.d, kt] H (upd H5 t6 (.tup [v5])) := (((x2.trans x3).trans x4).trans x5).trans x6
        cases tv6 with
        | tup hs ha =>
          rename_i a0 ts0
          have tl := ha.len
          have fin : ∀ x ∈ ws ++ [w5], Wd D n loops x := fun x hx => by
            rcases List.mem_append.mp hx with z | z
            · exact hws x z
            · rw [List.mem_singleton.mp z]; exact h5
          refine ⟨a0, t6, ts0, [v5], rfl, rfl, hs, .of upd_same, Nat.le_trans (show ts0.length + 1 ≤ 100 by omega) (by decide), fun e => ?_, fun _ e => ?_, fun _ _ p np => ?_⟩
          · have ew : ws = [] := by
              subst e
              cases ha; rfl
            subst ew
            exact ⟨_, _, _, rfl, xx, K6, tw6, by simp, fin⟩
          · cases e
          · have x7 : Ex [Z.d, kt] (upd H5 t6 (.tup [v5])) (upd (upd H5 t6 (.tup [v5])) p (.tup (ts0 ++ [v5]))) := .new np
            refine ⟨_, ws ++ [w5], _, rfl, xx.trans x7, K6.keep0 (.new np), Tp.new np (ha.app (.cons (t5.ex x6) .nil)), by rw [List.length_append]; simp; omega, fin⟩
      · refine itN hlf ?_
        exact ⟨v, ws, _, rfl, x2, K2, tv, by omega, hws⟩
    · intro σ H2 ⟨v, ws, y, es, x2, K2, tv, hwl, hws⟩
      subst es
      exact ⟨v, rfl, q H2 v ws x2 K2 tv (by omega) hws⟩
end
end K03

set_option maxHeartbeats 8000000
namespace K03
open PySem PySem.Spec PyProof.Rows L2 Kk
theorem un_args {kt : Addr} {u : Int} (h : 0 ≤ u) : [V.ref kt, V.int (1 + u)] = [.ref kt, .int ((1 + u.toNat : Nat) : Int)] := by
  have e : ((1 + u.toNat : Nat) : Int) = 1 + u := by omega
  rw [e]
theorem loop_args {kt : Addr} {deep loops : Nat} {y : Int} (h : 0 ≤ y) : [V.ref kt, V.int ((deep : Int) + 1), V.int (1 + y), V.int ((loops : Int) + 1)] = [.ref kt, .int ((deep + 1 : Nat) : Int), .int ((1 + y.toNat : Nat) : Int), .int ((loops + 1 : Nat) : Int)] := by
  have e : ((1 + y.toNat : Nat) : Int) = 1 + y := by omega
  rw [e]; rfl
section
variable {P : Program} {w : World} {K : PySem.W.Frag} {mg : Str → Option Value} {base : Heap}
theorem ok_word {f fD fS fU fR : Addr} {fd fdD fdS fdU fdR : FuncData} {k n : Nat} {spR : Sp} (F : Fun K "_law_word" "_law_word" s_word f fd) (C__law_draw : Cl P w K mg base k "_law_draw" ["_law_deck_here", "_law_many_here"] spDraw fD fdD)
    (C__law_some : Cl P w K mg base k "_law_some" ["_law_kit_here", "_law_things"] (spSome K) fS fdS) (C__law_unlike : Cl P w K mg base k "_law_unlike" ["_law_kit_here", "_law_many_here"] (spUnlike K) fU fdU)
    (C__law_row : Cl P w K mg base k "_law_row" ["_law_kit_here", "_law_deep", "_law_many_here", "_law_loops"] spR fR fdR) (hR : ∀ m, n = m + 1 → spR = spRow K m)
    (m_range : mg "range" = none) (m_tuple : mg "tuple" = none) :
    FnOk P w K mg base CX0 (k + 1) f fd ["_law_kit_here", "_law_deep", "_law_loops", "_law_way"] (spWord K n) := by
  refine F.ok sc_word (fun vs H Q E h => ?_) (fun cdv A outer s H vs Q E hr h => ?_)
  · obtain ⟨kt, Z, D, F, deep, loops, way, rfl, _⟩ := h; rfl
  · obtain ⟨kt, Z, D, F, deep, loops, way, rfl, hK, hF, hd, hlp, hw0, hw1, q⟩ := h
    refine ⟨_, (pss_cons (ps_asg (pe_lc (own := [("_law_k", 12)]) (g := gName 12) (tt := tYes) rfl sc_word.nd (pi_range1 (by rfl) m_range (pa_cons pe_int pa_nil)) (blkOk_by (N := n_word) (sc := defScope s_word) (by decide +kernel)) (fun _ _ _ _ _ => pg_name (i := 12) sc_word.nd rfl (Or.inl rfl)) (fun _ _ _ _ _ => pts_nil) (fun _ _ _ _ _ => (pe_call C__law_some.g hr (by rfl) C__law_some.m C__law_some.k C__law_some.b .nil pass0 (pa_cons (pv 0) (pa_cons (pe_dget (hu_of hr) (pv 0) pe_str (fun _ _ => rfl)) pa_nil))))) (pg_lst rfl (pgs_cons (pg_name (i := 4) sc_word.nd rfl (.inl rfl)) (pgs_cons (pg_name (i := 5) sc_word.nd rfl (.inl rfl)) (pgs_cons (pg_name (i := 6) sc_word.nd rfl (.inl rfl)) pgs_nil)))))
      (pss_cons (ps_if (PW.pt (pw_or (pt_cmpR op_lt (pv 3) pe_int (nomark _)) (pw_or1 (PW.pt (pw_and (pt_cmpR op_gt (pv 3) pe_int (nomark _)) (pw_and1 (pt_cmpR op_gt (pv 1) pe_int (nomark _)))))))) (pss_one (ps_ret (pe_ifExp (pt_cmpR op_lt (pv 3) pe_int (nomark _)) (pe_tup (pa_cons pe_str (pa_cons (pv 4) (pa_cons (pe_call C__law_some.g hr (by rfl) C__law_some.m C__law_some.k C__law_some.b .nil pass0 (pa_cons (pv 0) (pa_cons (pe_dget (hu_of hr) (pv 0) pe_str (fun _ _ => rfl)) pa_nil))) pa_nil)))) (pe_tup (pa_cons pe_str (pa_cons (pv 4) pa_nil)))))) pss_nil)
      (pss_cons (ps_if (pt_cmpR op_lt (pv 3) pe_int (nomark _)) (pss_cons (ps_set (i := 7) sc_word.nd rfl (.inl rfl) (pe_lst (pa_cons (pe_tup (pa_cons pe_str (pa_cons (pv 4) (pa_cons (pv 5) pa_nil)))) (pa_cons (pe_tup (pa_cons pe_str (pa_cons (pv 4) (pa_cons (pv 5) (pa_cons (pv 6) pa_nil))))) (pa_cons (pe_tup (pa_cons pe_str (pa_cons (pv 4) (pa_cons (pv 5) pa_nil)))) (pa_cons (pe_tup (pa_cons pe_str (pa_cons (pv 4) pa_nil))) (pa_cons (pe_tup (pa_cons pe_str (pa_cons (pv 4) pa_nil))) pa_nil)))))))
      (pss_one (ps_ret (pe_ix ix_list (pe_op op_cat (pv 7) (pe_lst (pa_cons (pe_tup (pa_cons pe_str (pa_cons (pv 4) (pa_cons (pe_ix ix_list (pe_lst (pa_cons (pe_call C__law_draw.g hr (by rfl) C__law_draw.m C__law_draw.k C__law_draw.b .nil pass0 (pa_cons (pe_dget (hu_of hr) (pv 0) pe_str (fun _ _ => rfl)) (pa_cons pe_int pa_nil))) (pa_cons pe_int (pa_cons pe_int pa_nil)))) (pe_call C__law_draw.g hr (by rfl) C__law_draw.m C__law_draw.k C__law_draw.b .nil pass0 (pa_cons (pe_dget (hu_of hr) (pv 0) pe_str (fun _ _ => rfl)) (pa_cons pe_int pa_nil))) (fun _ _ => rfl)) pa_nil)))) pa_nil))) (pe_op op_sub (pv 3) pe_int) (fun _ _ => rfl))))) pss_nil)
      (pss_cons (ps_if (pt_cmpR op_eq (pv 3) pe_int (nomark _)) (pss_one (ps_ret (pe_tup (pa_cons pe_str (pa_cons (pe_call C__law_some.g hr (by rfl) C__law_some.m C__law_some.k C__law_some.b .nil pass0 (pa_cons (pv 0) (pa_cons (pe_dget (hu_of hr) (pv 0) pe_str (fun _ _ => rfl)) pa_nil))) pa_nil))))) pss_nil)
      (pss_cons (ps_if (pt_cmpR op_eq (pv 3) pe_int (nomark _)) (pss_one (ps_ret (pe_tup (pa_cons pe_str (pa_cons (pe_call C__law_unlike.g hr (by rfl) C__law_unlike.m C__law_unlike.k C__law_unlike.b .nil pass0 (pa_cons (pv 0) (pa_cons (pe_op op_add pe_int (pe_call C__law_draw.g hr (by rfl) C__law_draw.m C__law_draw.k C__law_draw.b .nil pass0 (pa_cons (pe_dget (hu_of hr) (pv 0) pe_str (fun _ _ => rfl)) (pa_cons pe_int pa_nil)))) pa_nil))) pa_nil))))) pss_nil)
      (pss_cons (ps_if (pt_cmpR op_eq (pv 3) pe_int (nomark _)) (pss_one (ps_ret (pe_tup (pa_cons pe_str (pa_cons (pe_call C__law_some.g hr (by rfl) C__law_some.m C__law_some.k C__law_some.b .nil pass0 (pa_cons (pv 0) (pa_cons (pe_dget (hu_of hr) (pv 0) pe_str (fun _ _ => rfl)) pa_nil))) pa_nil))))) pss_nil)
      (pss_cons (ps_if (PW.pt (pw_and (pt_cmpR op_eq (pv 3) pe_int (nomark _)) (pw_and1 (pt_cmpR op_eq (pe_call C__law_draw.g hr (by rfl) C__law_draw.m C__law_draw.k C__law_draw.b .nil pass0 (pa_cons (pe_dget (hu_of hr) (pv 0) pe_str (fun _ _ => rfl)) (pa_cons pe_int pa_nil))) pe_int (nomark _))))) (pss_one (ps_ret (pe_ix ix_list (pe_lst (pa_cons (pe_tup (pa_cons pe_str (pa_cons (pe_call C__law_some.g hr (by rfl) C__law_some.m C__law_some.k C__law_some.b .nil pass0 (pa_cons (pv 0) (pa_cons (pe_dget (hu_of hr) (pv 0) pe_str (fun _ _ => rfl)) pa_nil))) pa_nil))) (pa_cons (pe_tup (pa_cons pe_str pa_nil)) pa_nil))) (pe_call C__law_draw.g hr (by rfl) C__law_draw.m C__law_draw.k C__law_draw.b .nil pass0 (pa_cons (pe_dget (hu_of hr) (pv 0) pe_str (fun _ _ => rfl)) (pa_cons pe_int pa_nil))) (fun _ _ => rfl)))) pss_nil)
      (pss_cons (ps_if (PW.pt (pw_and (pt_cmpR op_eq (pv 3) pe_int (nomark _)) (pw_and1 (pt_cmpR op_gt (pv 2) pe_int (nomark _))))) (pss_one (ps_ret (pe_tup (pa_cons pe_str (pa_cons (pe_op op_add pe_int (pe_call C__law_draw.g hr (by rfl) C__law_draw.m C__law_draw.k C__law_draw.b .nil pass0 (pa_cons (pe_dget (hu_of hr) (pv 0) pe_str (fun _ _ => rfl)) (pa_cons (pv 2) pa_nil)))) pa_nil))))) pss_nil)
      (pss_cons (ps_if (PW.pt (pw_and (pt_cmpR op_lt (pv 3) pe_int (nomark _)) (pw_and1 (pt_cmpR (op_ne_nil hr) (pe_dget (hu_of hr) (pv 0) pe_str (fun _ _ => rfl)) (pe_lst pa_nil) (nomark _))))) (pss_cons (ps_asg (pe_call C__law_some.g hr (by rfl) C__law_some.m C__law_some.k C__law_some.b .nil pass0 (pa_cons (pv 0) (pa_cons (pe_dget (hu_of hr) (pv 0) pe_str (fun _ _ => rfl)) pa_nil))) (pg_tup rfl (pgs_cons (pg_name (i := 8) sc_word.nd rfl (.inl rfl)) (pgs_cons (pg_name (i := 9) sc_word.nd rfl (.inl rfl)) (pgs_cons (pg_name (i := 10) sc_word.nd rfl (.inl rfl)) pgs_nil)))))
      (pss_one (ps_ret (pe_tup (pa_cons pe_str (pa_cons (pv 8) (pa_cons (pe_call C__law_unlike.g hr (by rfl) C__law_unlike.m C__law_unlike.k C__law_unlike.b .nil pass0 (pa_cons (pv 0) (pa_cons (pv 9) pa_nil))) (pa_cons (pe_call C__law_unlike.g hr (by rfl) C__law_unlike.m C__law_unlike.k C__law_unlike.b .nil pass0 (pa_cons (pv 0) (pa_cons (pv 10) pa_nil))) pa_nil)))))))) pss_nil)
      (pss_cons (ps_if (pt_cmpR op_eq (pv 3) pe_int (nomark _)) (pss_cons (ps_setLc (i := 11) (own := [("_law_k", 12)]) (g := gName 12) (tt := tYes) rfl sc_word.nd rfl rfl (sw_true rfl rfl rfl (by decide +kernel)) (pi_range1 (by rfl) m_range (pa_cons (pe_op op_add pe_int (pe_call C__law_draw.g hr (by rfl) C__law_draw.m C__law_draw.k C__law_draw.b .nil pass0 (pa_cons (pe_dget (hu_of hr) (pv 0) pe_str (fun _ _ => rfl)) (pa_cons pe_int pa_nil)))) pa_nil)) (blkOk_by (N := n_word) (sc := defScope s_word) (by decide +kernel)) (fun _ _ _ _ _ => pg_name (i := 12) sc_word.nd rfl (Or.inl rfl)) (fun _ _ _ _ _ => pts_nil) (fun _ _ _ _ _ => (pe_call C__law_row.g hr (by rfl) C__law_row.m C__law_row.k C__law_row.b .nil pass0 (pa_cons (pv 0) (pa_cons (pe_op op_add (pv 1) pe_int) (pa_cons (pe_call C__law_draw.g hr (by rfl) C__law_draw.m C__law_draw.k C__law_draw.b .nil pass0 (pa_cons (pe_dget (hu_of hr) (pv 0) pe_str (fun _ _ => rfl)) (pa_cons pe_int pa_nil))) (pa_cons (pv 2) pa_nil)))))))
      (pss_one (ps_ret (pe_tup (pa_cons pe_str (pa_cons (pe_callTy call_tuple_of (by rfl) m_tuple (by decide +kernel) (pa_cons (pv 11) pa_nil)) pa_nil)))))) pss_nil)
      (pss_one (ps_ret (pe_tup (pa_cons pe_str (pa_cons (pe_call C__law_row.g hr (by rfl) C__law_row.m C__law_row.k C__law_row.b .nil pass0 (pa_cons (pv 0) (pa_cons (pe_op op_add (pv 1) pe_int) (pa_cons (pe_op op_add pe_int (pe_call C__law_draw.g hr (by rfl) C__law_draw.m C__law_draw.k C__law_draw.b .nil pass0 (pa_cons (pe_dget (hu_of hr) (pv 0) pe_str (fun _ _ => rfl)) (pa_cons pe_int pa_nil)))) (pa_cons (pe_op op_add (pv 2) pe_int) pa_nil))))) pa_nil))))))))))))))), ?_⟩
    -- three boxes
    refine ⟨3, rfl, by decide, by decide, fun B nB => ?_⟩
    have Bp := hK.off nB
    have Bd : B ≠ Z.d := fun z => Bp (by rw [z]; simp [parts])
    have Bk : B ≠ kt := fun z => Bp (by rw [z]; simp [parts])
    have bne : D.boxes.map V.str ≠ [] := fun z => by
      have := congrArg List.length z
      rw [List.length_map, hK.len] at this; cases this
    have bln : (D.boxes.map V.str).length ≤ 1000 := by rw [List.length_map, hK.len]; decide
    refine lc_range (lo := 0) (n := 3) (fun i H2 => ∃ xs : List Str, H2 B = some (.lst (xs.map V.str)) ∧ xs.length = i ∧ (∀ x ∈ xs, x ∈ D.boxes) ∧ Ex [Z.d, kt] H H2 ∧ Kit K H2 kt Z D (F + i)) ?_ ?_ ?_
    · exact ⟨[], upd_same, rfl, by simp, .new nB, (hK.keep0 (.new nB)).mono (by omega)⟩
    · intro i H2 hi ⟨xs, hB, hxl, hxs, x2, K2⟩
      refine ⟨rfl, ?_⟩
      refine ⟨.ref kt, rfl, .ref kt, rfl, kt, _, rfl, K2.boxes, kt, Z.b, Z, D, _, _, rfl, K2, by omega, K2.b, K2.nb, bne, bln, fun H3 v hv x3 K3 => ?_⟩
      obtain ⟨z, hz, ez⟩ := List.mem_map.mp hv
      subst ez
      have hB3 := x3.lst hB (by simp [Bd, Bk])
      refine ⟨xs.map V.str, hB3, by rw [List.length_map]; exact Nat.lt_of_le_of_lt (show xs.length ≤ 10 by omega) (by decide), ?_⟩
      have xp : Ex [B] H3 (upd H3 B (.lst (xs.map V.str ++ [.str z]))) := .put hB3 nt_lst (by simp)
      refine ⟨xs ++ [z], by rw [upd_same, List.map_append]; rfl, by rw [List.length_append, hxl]; rfl, fun y hy => ?_, Ex.own nB (x2.trans x3) (xp.mono fun b hb => by simp at hb; simp [hb]), (K3.keepP xp (fun a ha => by rw [List.mem_singleton.mp ha]; exact Bp)).mono (by omega)⟩
      rcases List.mem_append.mp hy with e | e
      · exact hxs y e
      · rw [List.mem_singleton.mp e]; exact hz
    · intro H2 ⟨xs, hB, hxl, hxs, x2, K2⟩
      obtain ⟨x, y, z, rfl⟩ : ∃ x y z, xs = [x, y, z] := by
        match xs, hxl with
        | [x, y, z], _ => exact ⟨x, y, z, rfl⟩
      have bx := hxs x (by simp)
      have by_ := hxs y (by simp)
      have bz := hxs z (by simp)
      have K2 : Kit K H2 kt Z D (F + 3) := K2
      refine ⟨B, _, rfl, .of hB, rfl, _, _, rfl, _, _, rfl, _, _, rfl, rfl, ?_⟩
      have wne : D.worths.map V.str ≠ [] := fun e => hK.wl (List.map_eq_nil_iff.mp e)
      have wln : (D.worths.map V.str).length ≤ 1000 := by rw [List.length_map]; exact hK.wl2.1
      have rne : D.recs.map V.str ≠ [] := fun e => hK.rl (List.map_eq_nil_iff.mp e)
      have rln : (D.recs.map V.str).length ≤ 1000 := by rw [List.length_map]; exact hK.wl2.2.1
      refine ⟨.int way, rfl, way, 4, rfl, rfl, _, rfl, ?_⟩
      by_cases w4 : way < 4
      · refine itD w4 (iteT ?_)
        refine ⟨.int way, rfl, way, 2, rfl, rfl, _, rfl, ?_⟩
        by_cases w2 : way < 2
        · refine itD w2 ?_
          refine ⟨.str x, rfl, .ref kt, rfl, .ref kt, rfl, kt, _, rfl, K2.worths, kt, Z.wt, Z, D, _, _, rfl, K2, by omega, K2.wt, K2.nw, wne, wln, fun H3 v hv x3 K3 => ?_⟩
          obtain ⟨wz, hwz, ez⟩ := List.mem_map.mp hv
          subst ez
          refine ⟨(by show 3 ≤ sizeLine; decide), fun p np => ?_⟩
          exact q _ _ _ ((x2.trans x3).trans (.new np)) ((K3.keep0 (.new np)).mono (by omega)) (Tp.new np (.cons (.str _) (.cons (.str _) (.cons (.str _) .nil)))) (.take bx hwz)
        · refine itN w2 ?_
          refine ⟨.str x, rfl, (by show 2 ≤ sizeLine; decide), fun p np => ?_⟩
          exact q _ _ _ (x2.trans (.new np)) ((K2.keep0 (.new np)).mono (by omega)) (Tp.new np (.cons (.str _) (.cons (.str _) .nil))) (.ask bx)
      · refine itN w4 ?_
        refine ⟨.int way, rfl, way, 12, rfl, rfl, _, rfl, ?_⟩
        by_cases c12 : 12 < way
        · refine itD c12 ?_
          refine ⟨.int deep, rfl, deep, 3, rfl, rfl, _, rfl, ?_⟩
          by_cases c3 : (3 : Int) < (deep : Int)
          · refine itD c3 ?_
            refine ⟨.int way, rfl, way, 2, rfl, rfl, _, rfl, ?_⟩
            by_cases w2 : way < 2
            · refine itD w2 ?_
              refine ⟨.str x, rfl, .ref kt, rfl, .ref kt, rfl, kt, _, rfl, K2.worths, kt, Z.wt, Z, D, _, _, rfl, K2, by omega, K2.wt, K2.nw, wne, wln, fun H3 v hv x3 K3 => ?_⟩
              obtain ⟨wz, hwz, ez⟩ := List.mem_map.mp hv
              subst ez
              refine ⟨(by show 3 ≤ sizeLine; decide), fun p np => ?_⟩
              exact q _ _ _ ((x2.trans x3).trans (.new np)) ((K3.keep0 (.new np)).mono (by omega)) (Tp.new np (.cons (.str _) (.cons (.str _) (.cons (.str _) .nil)))) (.take bx hwz)
            · refine itN w2 ?_
              refine ⟨.str x, rfl, (by show 2 ≤ sizeLine; decide), fun p np => ?_⟩
              exact q _ _ _ (x2.trans (.new np)) ((K2.keep0 (.new np)).mono (by omega)) (Tp.new np (.cons (.str _) (.cons (.str _) .nil))) (.ask bx)
          · refine itN c3 ?_
            refine ⟨.int way, rfl, way, 10, rfl, rfl, _, rfl, itN (by omega) ?_⟩
            refine ⟨.int way, rfl, rfl, _, rfl, itN (fun e => by have := V.int.inj e; omega) ?_⟩
            refine ⟨.int way, rfl, rfl, _, rfl, itN (fun e => by have := V.int.inj e; omega) ?_⟩
            refine ⟨.int way, rfl, rfl, _, rfl, itN (fun e => by have := V.int.inj e; omega) ?_⟩
            refine ⟨.int way, rfl, rfl, _, rfl, ?_⟩
            by_cases e13 : way = 13
            · refine itD (congrArg V.int e13) ?_
              obtain ⟨nn, d1, hn, st⟩ := K2.dr (by omega)
              refine ⟨.ref kt, rfl, kt, _, rfl, K2.deck, Z.d, 3, nn, rfl, d1, hn, by decide, by decide, fun H3 u u0 u1 e0 d2 => ?_⟩
              obtain ⟨x3, K3⟩ := st H3 e0 d2
              refine ⟨rfl, _, rfl, ?_⟩
              by_cases u00 : u = 0
              · refine itD (congrArg V.int u00) ?_
                refine ⟨.ref kt, rfl, .ref kt, rfl, kt, _, rfl, K3.worths, kt, Z.wt, Z, D, _, _, rfl, K3, by omega, K3.wt, K3.nw, wne, wln, fun H4 v hv x4 K4 => ?_⟩
                obtain ⟨wz, hwz, ez⟩ := List.mem_map.mp hv
                subst ez
                refine ⟨(by show 2 ≤ sizeLine; decide), fun t1 m1 => ?_⟩
                refine ⟨(by show 1 ≤ sizeLine; decide), fun t2 m2 => ?_⟩
                refine ⟨(by show 2 ≤ sizeLine; decide), fun L mL => ?_⟩
                have y1 : Ex [] H4 _ := .new (o := .tup [.str (Str.ofString "fault"), .str wz]) m1
                have y2 : Ex [] _ _ := .new (o := .tup [.str (Str.ofString "back")]) m2
                have y3 : Ex [] _ _ := .new (o := .lst [.ref t1, .ref t2]) mL
                have h1 := (y2.trans y3).tup upd_same
                have h2 := y3.tup upd_same
                have Lp : L ∉ parts kt Z := (K4.keep0 (y1.trans y2)).off mL
                have K5 := K4.keep0 ((y1.trans y2).trans y3)
                have x5 := ((x2.trans x3).trans x4).trans ((y1.trans y2).trans y3).nil
                have hL := upd_same (H := upd (upd H4 t1 (.tup [.str (Str.ofString "fault"), .str wz])) t2 (.tup [.str (Str.ofString "back")])) (a := L) (o := .lst [.ref t1, .ref t2])
                generalize upd (upd (upd H4 t1 (.tup [.str (Str.ofString "fault"), .str wz])) t2 (.tup [.str (Str.ofString "back")])) L (.lst [.ref t1, .ref t2]) = H5 at h1 h2 K5 x5 hL
                obtain ⟨n5, d5, hn5, st5⟩ := K5.dr (by omega)
                refine ⟨.ref kt, rfl, kt, _, rfl, K5.deck, Z.d, 2, n5, rfl, d5, hn5, by decide, by decide, fun H6 j j0 j1 e6 d6 => ?_⟩
                obtain ⟨x6, K6⟩ := st5 H6 e6 d6
                have a1 : L ≠ Z.d := fun e => Lp (by rw [e]; simp [parts])
                have a2 : L ≠ kt := fun e => Lp (by rw [e]; simp [parts])
                refine ⟨L, [.ref t1, .ref t2], j, ?_⟩
                have hj : j = 0 ∨ j = 1 := by omega
                rcases hj with rfl | rfl
                · exact ⟨.ref t1, rfl, rfl, .of (x6.lst hL (by simp [a1, a2])), rfl, q _ _ _ (x5.trans x6) (K6.mono (by omega)) (.tup (.of (x6.tup h1)) (.cons (.str _) (.cons (.str _) .nil))) (.fault hwz)⟩
                · exact ⟨.ref t2, rfl, rfl, .of (x6.lst hL (by simp [a1, a2])), rfl, q _ _ _ (x5.trans x6) (K6.mono (by omega)) (.tup (.of (x6.tup h2)) (.cons (.str _) .nil)) .back⟩
              · refine itN (fun e => u00 (V.int.inj e)) ?_
                refine ⟨.int way, rfl, rfl, _, rfl, itN (fun e => by have := V.int.inj e; omega) (iteF ?_)⟩
                have x03 := x2.trans x3
                have K3 : Kit K H3 kt Z D (F + 4) := K3.mono (by omega)
                have nz : n ≠ 0 := by omega
                obtain ⟨m, rfl⟩ : ∃ m, n = m + 1 := ⟨n - 1, by omega⟩
                have RW := hR m rfl
                have chz : ∀ (H5 : Hp) (F5 : Int), Kit K H5 kt Z D F5 → F5 ≤ F + 4 → Ex [Z.d, kt] H H5 → way ≠ 18 → True := fun _ _ _ _ _ _ => trivial
                refine ⟨.int way, rfl, way, 18, rfl, rfl, _, rfl, ?_⟩
                by_cases w18 : way < 18
                · refine itD w18 ?_
                  obtain ⟨ks, hk1, hk2⟩ := K3.kn
                  refine ⟨.ref kt, rfl, kt, _, rfl, K3.known, (by show 0 ≤ sizeLine; decide), fun e0 ne0 => ?_⟩
                  have xe : Ex [] H3 (upd H3 e0 (.lst [])) := .new ne0
                  refine ⟨Z.kn, e0, ks, rfl, rfl, .of (xe.lst hk1), .of upd_same, _, rfl, ?_⟩
                  have Ke : Kit K (upd H3 e0 (.lst [])) kt Z D (F + 4) := K3.keep0 xe
                  have xx : Ex [Z.d, kt] H (upd H3 e0 (.lst [])) := x03.trans xe.nil
                  have hk1' := xe.lst hk1
                  have hk2' := hk2.ex xe
                  generalize upd H3 e0 (.lst []) = He at Ke xx hk1' hk2'
                  cases ks with
                  | nil =>
                    refine iteF ?_
                    refine ⟨.int way, rfl, rfl, _, rfl, ?_⟩
                    refine itN (fun e => (by have := V.int.inj e; omega)) ?_
                    obtain ⟨nl, dl1, hnl, stl⟩ := Ke.dr (by omega)
                    refine ⟨.ref kt, rfl, .int deep, rfl, deep, 1, rfl, rfl, .ref kt, rfl, kt, _, rfl, Ke.deck, Z.d, 3, nl, rfl, dl1, hnl, by decide, by decide, fun H8 y8 y80 y81 e8 d8 => ?_⟩
                    obtain ⟨x8, K8⟩ := stl H8 e8 d8
                    refine ⟨1, y8, rfl, rfl, .int loops, rfl, loops, 1, rfl, rfl, ?_⟩
                    rw [RW]
                    refine ⟨kt, Z, D, _, deep + 1, 1 + y8.toNat, loops + 1, loop_args y80, K8, by omega, by omega, by omega, by omega, fun H9 v9 ws9 x9 K9 t9 l9 w9 => ?_⟩
                    refine ⟨(by show 2 ≤ sizeLine; decide), fun t2 m2 => ?_⟩
                    exact q _ _ _ (((xx.trans x8).trans x9).trans (.new m2)) ((K9.keep0 (.new m2)).mono (by omega)) (Tp.new m2 (.cons (.str _) (.cons t9 .nil))) (.loop (by omega) w9)
                  | cons k0 ks =>
                    refine iteT ?_
                    have kl : (k0 :: ks).length ≤ 100 := by rw [hk2'.len, List.length_map]; exact Ke.wl2.2.2
                    refine ⟨.ref kt, rfl, .ref kt, rfl, kt, _, rfl, Ke.known, kt, Z.kn, Z, D, F + 4, _, rfl, Ke, by omega, hk1', Ke.nk, by simp, by omega, fun H6 v6 hv6 x6 K6 => ?_⟩
                    obtain ⟨i6, hi6⟩ := List.getElem?_of_mem hv6
                    obtain ⟨d6, hd6, t6⟩ := hk2'.get hi6
                    rw [List.getElem?_map] at hd6
                    cases hp6 : D.known[i6]? with
                    | none => rw [hp6] at hd6; cases hd6
                    | some p6 =>
                      rw [hp6] at hd6
                      cases hd6
                      have hm6 := List.mem_of_getElem? hp6
                      obtain ⟨c1, c2⟩ := Ke.small p6 hm6
                      have t6' := t6.ex x6
                      unfold knD at t6'
                      cases t6' with
                      | tup hs6 ha6 =>
                        cases ha6 with
                        | cons q1 r1 =>
                          cases q1
                          cases r1 with
                          | cons q2 r2 =>
                            cases q2
                            cases r2 with
                            | cons q3 r3 =>
                              cases q3
                              cases r3
                              refine ⟨_, _, rfl, hs6, rfl, _, _, rfl, _, _, rfl, _, _, rfl, rfl, ?_⟩
                              refine ⟨_, rfl, .ref kt, rfl, .int p6.2.1, rfl, kt, Z, D, _, p6.2.1, rfl, K6, by omega, by omega, fun H7 v7 xs7 t7 s7 l7 x7 K7 => ?_⟩
                              refine ⟨.ref kt, rfl, .int p6.2.2, rfl, kt, Z, D, _, p6.2.2, rfl, K7, by omega, by omega, fun H8 v8 xs8 t8 s8 l8 x8 K8 => ?_⟩
                              refine ⟨(by show 4 ≤ sizeLine; decide), fun p np => ?_⟩
                              refine q _ _ _ ((((xx.trans x6).trans x7).trans x8).trans (.new np)) ((K8.keep0 (.new np)).mono (by omega)) (Tp.new np (.cons (.str _) (.cons (.str _) (.cons (t7.ex x8) (.cons t8 .nil))))) (.call ?_ s7 s8)
                              rw [l7, l8]; exact hm6
                · refine itN w18 ?_
                  refine iteF ?_
                  refine ⟨.int way, rfl, rfl, _, rfl, ?_⟩
                  by_cases e18 : way = 18
                  · refine itD (congrArg V.int e18) ?_
                    obtain ⟨nn, d1, hn, st⟩ := K3.dr (by omega)
                    refine ⟨.ref kt, rfl, kt, _, rfl, K3.deck, Z.d, 4, nn, rfl, d1, hn, by decide, by decide, fun H6 u u0 u1 e0 d2 => ?_⟩
                    obtain ⟨x6, K6⟩ := st H6 e0 d2
                    refine ⟨1, u, rfl, rfl, 1 + u, rfl, by omega, by omega, fun B nB => ?_⟩
                    have x06 : Ex [Z.d, kt] H H6 := x03.trans x6
                    have Bp := K6.off nB
                    have Bd : B ≠ Z.d := fun z => Bp (by rw [z]; simp [parts])
                    have Bk : B ≠ kt := fun z => Bp (by rw [z]; simp [parts])
                    refine lc_range (lo := 0) (n := (1 + u).toNat) (fun i H7 => ∃ (rs : List V) (rows : List (List PyData)), H7 B = some (.lst rs) ∧ TpAll K H7 rs (rows.map PyData.tuple) ∧ rows.length = i ∧ (∀ ws ∈ rows, ws.length ≤ 3 ∧ ∀ x ∈ ws, Wd D m loops x) ∧ Ex [Z.d, kt] H H7 ∧ Kit K H7 kt Z D (F + 4 + 1 + i)) ?_ ?_ ?_
                    · exact ⟨[], [], upd_same, .nil, rfl, by simp, x06.trans (.new nB), (K6.keep0 (.new nB)).mono (by omega)⟩
                    · intro i H7 hi ⟨rs, rows, hB, tr, hrl, hrw, x7, K7⟩
                      refine ⟨rfl, ?_⟩
                      obtain ⟨nn2, d12, hn2, st2⟩ := K7.dr (by omega)
                      refine ⟨.ref kt, rfl, .int deep, rfl, deep, 1, rfl, rfl, .ref kt, rfl, kt, _, rfl, K7.deck, Z.d, 3, nn2, rfl, d12, hn2, by decide, by decide, fun H8 y8 y80 y81 e8 d8 => ?_⟩
                      obtain ⟨x8, K8⟩ := st2 H8 e8 d8
                      refine ⟨.int loops, rfl, ?_⟩
                      rw [RW]
                      refine ⟨kt, Z, D, _, deep + 1, y8.toNat, loops, (by rw [Int.toNat_of_nonneg y80]; rfl), K8, by omega, by omega, by omega, by omega, fun H9 v9 ws9 x9 K9 t9 l9 w9 => ?_⟩
                      have hB9 := x9.lst (x8.lst hB (by simp [Bd, Bk])) (by simp [Bd, Bk])
                      have rsl := tr.len
                      rw [List.length_map] at rsl
                      refine ⟨rs, hB9, Nat.lt_of_le_of_lt (show rs.length ≤ 10 by omega) (by decide), ?_⟩
                      have xp : Ex [B] H9 (upd H9 B (.lst (rs ++ [v9]))) := .put hB9 nt_lst (by simp)
                      refine ⟨rs ++ [v9], rows ++ [ws9], upd_same, ?_, by rw [List.length_append, hrl]; rfl, fun ws hws => ?_, ?_, ?_⟩
                      · rw [List.map_append]
                        exact (((tr.ex x8).ex x9).app (.cons t9 .nil)).ex xp
                      · rcases List.mem_append.mp hws with z | z
                        · exact hrw ws z
                        · rw [List.mem_singleton.mp z]; exact ⟨by omega, w9⟩
                      · exact Ex.own (x06.f B nB) ((x7.trans x8).trans x9) (xp.mono fun b hb => by simp at hb; simp [hb])
                      · exact (K9.keepP xp (fun a ha => by rw [List.mem_singleton.mp ha]; exact Bp)).mono (by omega)
                    · intro H7 ⟨rs, rows, hB, tr, hrl, hrw, x7, K7⟩
                      have rsl := tr.len
                      rw [List.length_map] at rsl
                      refine ⟨.ref B, rfl, B, _, rfl, .inl ⟨.of hB, fun t1 m1 => ?_⟩⟩
                      refine ⟨(by show 2 ≤ sizeLine; decide), fun t2 m2 => ?_⟩
                      have y1 : Ex [] H7 (upd H7 t1 (.tup rs)) := .new m1
                      refine q _ _ _ ((x7.trans y1.nil).trans (.new m2)) (((K7.keep0 y1).keep0 (.new m2)).mono (by omega)) (Tp.new m2 (.cons (.str _) (.cons (.tup (.of upd_same) (tr.ex y1)) .nil))) (.choose ?_ ?_ (fun ws h => (hrw ws h).1) (fun ws h => (hrw ws h).2))
                      · intro z; rw [z] at hrl; simp at hrl; omega
                      · omega
                  · refine itN (fun e => e18 (V.int.inj e)) ?_
                    obtain ⟨nl, dl1, hnl, stl⟩ := K3.dr (by omega)
                    refine ⟨.ref kt, rfl, .int deep, rfl, deep, 1, rfl, rfl, .ref kt, rfl, kt, _, rfl, K3.deck, Z.d, 3, nl, rfl, dl1, hnl, by decide, by decide, fun H8 y8 y80 y81 e8 d8 => ?_⟩
                    obtain ⟨x8, K8⟩ := stl H8 e8 d8
                    refine ⟨1, y8, rfl, rfl, .int loops, rfl, loops, 1, rfl, rfl, ?_⟩
                    rw [RW]
                    refine ⟨kt, Z, D, _, deep + 1, 1 + y8.toNat, loops + 1, loop_args y80, K8, by omega, by omega, by omega, by omega, fun H9 v9 ws9 x9 K9 t9 l9 w9 => ?_⟩
                    refine ⟨(by show 2 ≤ sizeLine; decide), fun t2 m2 => ?_⟩
                    exact q _ _ _ (((x03.trans x8).trans x9).trans (.new m2)) ((K9.keep0 (.new m2)).mono (by omega)) (Tp.new m2 (.cons (.str _) (.cons t9 .nil))) (.loop (by omega) w9)
            · refine itN (fun e => e13 (V.int.inj e)) (iteF ?_)
              refine ⟨.int way, rfl, rfl, _, rfl, ?_⟩
              by_cases e14 : way = 14
              · refine itD (congrArg V.int e14) ?_
                refine ⟨.int loops, rfl, loops, 0, rfl, rfl, _, rfl, ?_⟩
                by_cases l0 : (0 : Int) < (loops : Int)
                · refine itD l0 ?_
                  obtain ⟨nn, d1, hn, st⟩ := K2.dr (by omega)
                  refine ⟨.ref kt, rfl, kt, _, rfl, K2.deck, .int loops, rfl, Z.d, _, nn, rfl, d1, hn, l0, by omega, fun H3 u u0 u1 e0 d2 => ?_⟩
                  obtain ⟨x3, K3⟩ := st H3 e0 d2
                  refine ⟨1, u, rfl, rfl, (by show 2 ≤ sizeLine; decide), fun p np => ?_⟩
                  exact q _ _ _ ((x2.trans x3).trans (.new np)) ((K3.keep0 (.new np)).mono (by omega)) (Tp.new np (.cons (.str _) (.cons (.int _) .nil))) (.out (by omega) (by omega))
                · refine itN l0 ?_
                  have nz : n ≠ 0 := by omega
                  obtain ⟨m, rfl⟩ : ∃ m, n = m + 1 := ⟨n - 1, by omega⟩
                  have RW := hR m rfl
                  have chz : ∀ (H5 : Hp) (F5 : Int), Kit K H5 kt Z D F5 → F5 ≤ F + 3 → Ex [Z.d, kt] H H5 → way ≠ 18 → True := fun _ _ _ _ _ _ => trivial
                  refine ⟨.int way, rfl, way, 18, rfl, rfl, _, rfl, ?_⟩
                  by_cases w18 : way < 18
                  · refine itD w18 ?_
                    obtain ⟨ks, hk1, hk2⟩ := K2.kn
                    refine ⟨.ref kt, rfl, kt, _, rfl, K2.known, (by show 0 ≤ sizeLine; decide), fun e0 ne0 => ?_⟩
                    have xe : Ex [] H2 (upd H2 e0 (.lst [])) := .new ne0
                    refine ⟨Z.kn, e0, ks, rfl, rfl, .of (xe.lst hk1), .of upd_same, _, rfl, ?_⟩
                    have Ke : Kit K (upd H2 e0 (.lst [])) kt Z D (F + 3) := K2.keep0 xe
                    have xx : Ex [Z.d, kt] H (upd H2 e0 (.lst [])) := x2.trans xe.nil
                    have hk1' := xe.lst hk1
                    have hk2' := hk2.ex xe
                    generalize upd H2 e0 (.lst []) = He at Ke xx hk1' hk2'
                    cases ks with
                    | nil =>
                      refine iteF ?_
                      refine ⟨.int way, rfl, rfl, _, rfl, ?_⟩
                      refine itN (fun e => (by have := V.int.inj e; omega)) ?_
                      obtain ⟨nl, dl1, hnl, stl⟩ := Ke.dr (by omega)
                      refine ⟨.ref kt, rfl, .int deep, rfl, deep, 1, rfl, rfl, .ref kt, rfl, kt, _, rfl, Ke.deck, Z.d, 3, nl, rfl, dl1, hnl, by decide, by decide, fun H8 y8 y80 y81 e8 d8 => ?_⟩
                      obtain ⟨x8, K8⟩ := stl H8 e8 d8
                      refine ⟨1, y8, rfl, rfl, .int loops, rfl, loops, 1, rfl, rfl, ?_⟩
                      rw [RW]
                      refine ⟨kt, Z, D, _, deep + 1, 1 + y8.toNat, loops + 1, loop_args y80, K8, by omega, by omega, by omega, by omega, fun H9 v9 ws9 x9 K9 t9 l9 w9 => ?_⟩
                      refine ⟨(by show 2 ≤ sizeLine; decide), fun t2 m2 => ?_⟩
                      exact q _ _ _ (((xx.trans x8).trans x9).trans (.new m2)) ((K9.keep0 (.new m2)).mono (by omega)) (Tp.new m2 (.cons (.str _) (.cons t9 .nil))) (.loop (by omega) w9)
                    | cons k0 ks =>
                      refine iteT ?_
                      have kl : (k0 :: ks).length ≤ 100 := by rw [hk2'.len, List.length_map]; exact Ke.wl2.2.2
                      refine ⟨.ref kt, rfl, .ref kt, rfl, kt, _, rfl, Ke.known, kt, Z.kn, Z, D, F + 3, _, rfl, Ke, by omega, hk1', Ke.nk, by simp, by omega, fun H6 v6 hv6 x6 K6 => ?_⟩
                      obtain ⟨i6, hi6⟩ := List.getElem?_of_mem hv6
                      obtain ⟨d6, hd6, t6⟩ := hk2'.get hi6
                      rw [List.getElem?_map] at hd6
                      cases hp6 : D.known[i6]? with
                      | none => rw [hp6] at hd6; cases hd6
                      | some p6 =>
                        rw [hp6] at hd6
                        cases hd6
                        have hm6 := List.mem_of_getElem? hp6
                        obtain ⟨c1, c2⟩ := Ke.small p6 hm6
                        have t6' := t6.ex x6
                        unfold knD at t6'
                        cases t6' with
                        | tup hs6 ha6 =>
                          cases ha6 with
                          | cons q1 r1 =>
                            cases q1
                            cases r1 with
                            | cons q2 r2 =>
                              cases q2
                              cases r2 with
                              | cons q3 r3 =>
                                cases q3
                                cases r3
                                refine ⟨_, _, rfl, hs6, rfl, _, _, rfl, _, _, rfl, _, _, rfl, rfl, ?_⟩
                                refine ⟨_, rfl, .ref kt, rfl, .int p6.2.1, rfl, kt, Z, D, _, p6.2.1, rfl, K6, by omega, by omega, fun H7 v7 xs7 t7 s7 l7 x7 K7 => ?_⟩
                                refine ⟨.ref kt, rfl, .int p6.2.2, rfl, kt, Z, D, _, p6.2.2, rfl, K7, by omega, by omega, fun H8 v8 xs8 t8 s8 l8 x8 K8 => ?_⟩
                                refine ⟨(by show 4 ≤ sizeLine; decide), fun p np => ?_⟩
                                refine q _ _ _ ((((xx.trans x6).trans x7).trans x8).trans (.new np)) ((K8.keep0 (.new np)).mono (by omega)) (Tp.new np (.cons (.str _) (.cons (.str _) (.cons (t7.ex x8) (.cons t8 .nil))))) (.call ?_ s7 s8)
                                rw [l7, l8]; exact hm6
                  · refine itN w18 ?_
                    refine iteF ?_
                    refine ⟨.int way, rfl, rfl, _, rfl, ?_⟩
                    by_cases e18 : way = 18
                    · refine itD (congrArg V.int e18) ?_
                      obtain ⟨nn, d1, hn, st⟩ := K2.dr (by omega)
                      refine ⟨.ref kt, rfl, kt, _, rfl, K2.deck, Z.d, 4, nn, rfl, d1, hn, by decide, by decide, fun H6 u u0 u1 e0 d2 => ?_⟩
                      obtain ⟨x6, K6⟩ := st H6 e0 d2
                      refine ⟨1, u, rfl, rfl, 1 + u, rfl, by omega, by omega, fun B nB => ?_⟩
                      have x06 : Ex [Z.d, kt] H H6 := x2.trans x6
                      have Bp := K6.off nB
                      have Bd : B ≠ Z.d := fun z => Bp (by rw [z]; simp [parts])
                      have Bk : B ≠ kt := fun z => Bp (by rw [z]; simp [parts])
                      refine lc_range (lo := 0) (n := (1 + u).toNat) (fun i H7 => ∃ (rs : List V) (rows : List (List PyData)), H7 B = some (.lst rs) ∧ TpAll K H7 rs (rows.map PyData.tuple) ∧ rows.length = i ∧ (∀ ws ∈ rows, ws.length ≤ 3 ∧ ∀ x ∈ ws, Wd D m loops x) ∧ Ex [Z.d, kt] H H7 ∧ Kit K H7 kt Z D (F + 3 + 1 + i)) ?_ ?_ ?_
                      · exact ⟨[], [], upd_same, .nil, rfl, by simp, x06.trans (.new nB), (K6.keep0 (.new nB)).mono (by omega)⟩
                      · intro i H7 hi ⟨rs, rows, hB, tr, hrl, hrw, x7, K7⟩
                        refine ⟨rfl, ?_⟩
                        obtain ⟨nn2, d12, hn2, st2⟩ := K7.dr (by omega)
                        refine ⟨.ref kt, rfl, .int deep, rfl, deep, 1, rfl, rfl, .ref kt, rfl, kt, _, rfl, K7.deck, Z.d, 3, nn2, rfl, d12, hn2, by decide, by decide, fun H8 y8 y80 y81 e8 d8 => ?_⟩
                        obtain ⟨x8, K8⟩ := st2 H8 e8 d8
                        refine ⟨.int loops, rfl, ?_⟩
                        rw [RW]
                        refine ⟨kt, Z, D, _, deep + 1, y8.toNat, loops, (by rw [Int.toNat_of_nonneg y80]; rfl), K8, by omega, by omega, by omega, by omega, fun H9 v9 ws9 x9 K9 t9 l9 w9 => ?_⟩
                        have hB9 := x9.lst (x8.lst hB (by simp [Bd, Bk])) (by simp [Bd, Bk])
                        have rsl := tr.len
                        rw [List.length_map] at rsl
                        refine ⟨rs, hB9, Nat.lt_of_le_of_lt (show rs.length ≤ 10 by omega) (by decide), ?_⟩
                        have xp : Ex [B] H9 (upd H9 B (.lst (rs ++ [v9]))) := .put hB9 nt_lst (by simp)
                        refine ⟨rs ++ [v9], rows ++ [ws9], upd_same, ?_, by rw [List.length_append, hrl]; rfl, fun ws hws => ?_, ?_, ?_⟩
                        · rw [List.map_append]
                          exact (((tr.ex x8).ex x9).app (.cons t9 .nil)).ex xp
                        · rcases List.mem_append.mp hws with z | z
                          · exact hrw ws z
                          · rw [List.mem_singleton.mp z]; exact ⟨by omega, w9⟩
                        · exact Ex.own (x06.f B nB) ((x7.trans x8).trans x9) (xp.mono fun b hb => by simp at hb; simp [hb])
                        · exact (K9.keepP xp (fun a ha => by rw [List.mem_singleton.mp ha]; exact Bp)).mono (by omega)
                      · intro H7 ⟨rs, rows, hB, tr, hrl, hrw, x7, K7⟩
                        have rsl := tr.len
                        rw [List.length_map] at rsl
                        refine ⟨.ref B, rfl, B, _, rfl, .inl ⟨.of hB, fun t1 m1 => ?_⟩⟩
                        refine ⟨(by show 2 ≤ sizeLine; decide), fun t2 m2 => ?_⟩
                        have y1 : Ex [] H7 (upd H7 t1 (.tup rs)) := .new m1
                        refine q _ _ _ ((x7.trans y1.nil).trans (.new m2)) (((K7.keep0 y1).keep0 (.new m2)).mono (by omega)) (Tp.new m2 (.cons (.str _) (.cons (.tup (.of upd_same) (tr.ex y1)) .nil))) (.choose ?_ ?_ (fun ws h => (hrw ws h).1) (fun ws h => (hrw ws h).2))
                        · intro z; rw [z] at hrl; simp at hrl; omega
                        · omega
                    · refine itN (fun e => e18 (V.int.inj e)) ?_
                      obtain ⟨nl, dl1, hnl, stl⟩ := K2.dr (by omega)
                      refine ⟨.ref kt, rfl, .int deep, rfl, deep, 1, rfl, rfl, .ref kt, rfl, kt, _, rfl, K2.deck, Z.d, 3, nl, rfl, dl1, hnl, by decide, by decide, fun H8 y8 y80 y81 e8 d8 => ?_⟩
                      obtain ⟨x8, K8⟩ := stl H8 e8 d8
                      refine ⟨1, y8, rfl, rfl, .int loops, rfl, loops, 1, rfl, rfl, ?_⟩
                      rw [RW]
                      refine ⟨kt, Z, D, _, deep + 1, 1 + y8.toNat, loops + 1, loop_args y80, K8, by omega, by omega, by omega, by omega, fun H9 v9 ws9 x9 K9 t9 l9 w9 => ?_⟩
                      refine ⟨(by show 2 ≤ sizeLine; decide), fun t2 m2 => ?_⟩
                      exact q _ _ _ (((x2.trans x8).trans x9).trans (.new m2)) ((K9.keep0 (.new m2)).mono (by omega)) (Tp.new m2 (.cons (.str _) (.cons t9 .nil))) (.loop (by omega) w9)
              · refine itN (fun e => e14 (V.int.inj e)) (iteF ?_)
                have nz : n ≠ 0 := by omega
                obtain ⟨m, rfl⟩ : ∃ m, n = m + 1 := ⟨n - 1, by omega⟩
                have RW := hR m rfl
                have chz : ∀ (H5 : Hp) (F5 : Int), Kit K H5 kt Z D F5 → F5 ≤ F + 3 → Ex [Z.d, kt] H H5 → way ≠ 18 → True := fun _ _ _ _ _ _ => trivial
                refine ⟨.int way, rfl, way, 18, rfl, rfl, _, rfl, ?_⟩
                by_cases w18 : way < 18
                · refine itD w18 ?_
                  obtain ⟨ks, hk1, hk2⟩ := K2.kn
                  refine ⟨.ref kt, rfl, kt, _, rfl, K2.known, (by show 0 ≤ sizeLine; decide), fun e0 ne0 => ?_⟩
                  have xe : Ex [] H2 (upd H2 e0 (.lst [])) := .new ne0
                  refine ⟨Z.kn, e0, ks, rfl, rfl, .of (xe.lst hk1), .of upd_same, _, rfl, ?_⟩
                  have Ke : Kit K (upd H2 e0 (.lst [])) kt Z D (F + 3) := K2.keep0 xe
                  have xx : Ex [Z.d, kt] H (upd H2 e0 (.lst [])) := x2.trans xe.nil
                  have hk1' := xe.lst hk1
                  have hk2' := hk2.ex xe
                  generalize upd H2 e0 (.lst []) = He at Ke xx hk1' hk2'
                  cases ks with
                  | nil =>
                    refine iteF ?_
                    refine ⟨.int way, rfl, rfl, _, rfl, ?_⟩
                    refine itN (fun e => (by have := V.int.inj e; omega)) ?_
                    obtain ⟨nl, dl1, hnl, stl⟩ := Ke.dr (by omega)
                    refine ⟨.ref kt, rfl, .int deep, rfl, deep, 1, rfl, rfl, .ref kt, rfl, kt, _, rfl, Ke.deck, Z.d, 3, nl, rfl, dl1, hnl, by decide, by decide, fun H8 y8 y80 y81 e8 d8 => ?_⟩
                    obtain ⟨x8, K8⟩ := stl H8 e8 d8
                    refine ⟨1, y8, rfl, rfl, .int loops, rfl, loops, 1, rfl, rfl, ?_⟩
                    rw [RW]
                    refine ⟨kt, Z, D, _, deep + 1, 1 + y8.toNat, loops + 1, loop_args y80, K8, by omega, by omega, by omega, by omega, fun H9 v9 ws9 x9 K9 t9 l9 w9 => ?_⟩
                    refine ⟨(by show 2 ≤ sizeLine; decide), fun t2 m2 => ?_⟩
                    exact q _ _ _ (((xx.trans x8).trans x9).trans (.new m2)) ((K9.keep0 (.new m2)).mono (by omega)) (Tp.new m2 (.cons (.str _) (.cons t9 .nil))) (.loop (by omega) w9)
                  | cons k0 ks =>
                    refine iteT ?_
                    have kl : (k0 :: ks).length ≤ 100 := by rw [hk2'.len, List.length_map]; exact Ke.wl2.2.2
                    refine ⟨.ref kt, rfl, .ref kt, rfl, kt, _, rfl, Ke.known, kt, Z.kn, Z, D, F + 3, _, rfl, Ke, by omega, hk1', Ke.nk, by simp, by omega, fun H6 v6 hv6 x6 K6 => ?_⟩
                    obtain ⟨i6, hi6⟩ := List.getElem?_of_mem hv6
                    obtain ⟨d6, hd6, t6⟩ := hk2'.get hi6
                    rw [List.getElem?_map] at hd6
                    cases hp6 : D.known[i6]? with
                    | none => rw [hp6] at hd6; cases hd6
                    | some p6 =>
                      rw [hp6] at hd6
                      cases hd6
                      have hm6 := List.mem_of_getElem? hp6
                      obtain ⟨c1, c2⟩ := Ke.small p6 hm6
                      have t6' := t6.ex x6
                      unfold knD at t6'
                      cases t6' with
                      | tup hs6 ha6 =>
                        cases ha6 with
                        | cons q1 r1 =>
                          cases q1
                          cases r1 with
                          | cons q2 r2 =>
                            cases q2
                            cases r2 with
                            | cons q3 r3 =>
                              cases q3
                              cases r3
                              refine ⟨_, _, rfl, hs6, rfl, _, _, rfl, _, _, rfl, _, _, rfl, rfl, ?_⟩
                              refine ⟨_, rfl, .ref kt, rfl, .int p6.2.1, rfl, kt, Z, D, _, p6.2.1, rfl, K6, by omega, by omega, fun H7 v7 xs7 t7 s7 l7 x7 K7 => ?_⟩
                              refine ⟨.ref kt, rfl, .int p6.2.2, rfl, kt, Z, D, _, p6.2.2, rfl, K7, by omega, by omega, fun H8 v8 xs8 t8 s8 l8 x8 K8 => ?_⟩
                              refine ⟨(by show 4 ≤ sizeLine; decide), fun p np => ?_⟩
                              refine q _ _ _ ((((xx.trans x6).trans x7).trans x8).trans (.new np)) ((K8.keep0 (.new np)).mono (by omega)) (Tp.new np (.cons (.str _) (.cons (.str _) (.cons (t7.ex x8) (.cons t8 .nil))))) (.call ?_ s7 s8)
                              rw [l7, l8]; exact hm6
                · refine itN w18 ?_
                  refine iteF ?_
                  refine ⟨.int way, rfl, rfl, _, rfl, ?_⟩
                  by_cases e18 : way = 18
                  · refine itD (congrArg V.int e18) ?_
                    obtain ⟨nn, d1, hn, st⟩ := K2.dr (by omega)
                    refine ⟨.ref kt, rfl, kt, _, rfl, K2.deck, Z.d, 4, nn, rfl, d1, hn, by decide, by decide, fun H6 u u0 u1 e0 d2 => ?_⟩
                    obtain ⟨x6, K6⟩ := st H6 e0 d2
                    refine ⟨1, u, rfl, rfl, 1 + u, rfl, by omega, by omega, fun B nB => ?_⟩
                    have x06 : Ex [Z.d, kt] H H6 := x2.trans x6
                    have Bp := K6.off nB
                    have Bd : B ≠ Z.d := fun z => Bp (by rw [z]; simp [parts])
                    have Bk : B ≠ kt := fun z => Bp (by rw [z]; simp [parts])
                    refine lc_range (lo := 0) (n := (1 + u).toNat) (fun i H7 => ∃ (rs : List V) (rows : List (List PyData)), H7 B = some (.lst rs) ∧ TpAll K H7 rs (rows.map PyData.tuple) ∧ rows.length = i ∧ (∀ ws ∈ rows, ws.length ≤ 3 ∧ ∀ x ∈ ws, Wd D m loops x) ∧ Ex [Z.d, kt] H H7 ∧ Kit K H7 kt Z D (F + 3 + 1 + i)) ?_ ?_ ?_
                    · exact ⟨[], [], upd_same, .nil, rfl, by simp, x06.trans (.new nB), (K6.keep0 (.new nB)).mono (by omega)⟩
                    · intro i H7 hi ⟨rs, rows, hB, tr, hrl, hrw, x7, K7⟩
                      refine ⟨rfl, ?_⟩
                      obtain ⟨nn2, d12, hn2, st2⟩ := K7.dr (by omega)
                      refine ⟨.ref kt, rfl, .int deep, rfl, deep, 1, rfl, rfl, .ref kt, rfl, kt, _, rfl, K7.deck, Z.d, 3, nn2, rfl, d12, hn2, by decide, by decide, fun H8 y8 y80 y81 e8 d8 => ?_⟩
                      obtain ⟨x8, K8⟩ := st2 H8 e8 d8
                      refine ⟨.int loops, rfl, ?_⟩
                      rw [RW]
                      refine ⟨kt, Z, D, _, deep + 1, y8.toNat, loops, (by rw [Int.toNat_of_nonneg y80]; rfl), K8, by omega, by omega, by omega, by omega, fun H9 v9 ws9 x9 K9 t9 l9 w9 => ?_⟩
                      have hB9 := x9.lst (x8.lst hB (by simp [Bd, Bk])) (by simp [Bd, Bk])
                      have rsl := tr.len
                      rw [List.length_map] at rsl
                      refine ⟨rs, hB9, Nat.lt_of_le_of_lt (show rs.length ≤ 10 by omega) (by decide), ?_⟩
                      have xp : Ex [B] H9 (upd H9 B (.lst (rs ++ [v9]))) := .put hB9 nt_lst (by simp)
                      refine ⟨rs ++ [v9], rows ++ [ws9], upd_same, ?_, by rw [List.length_append, hrl]; rfl, fun ws hws => ?_, ?_, ?_⟩
                      · rw [List.map_append]
                        exact (((tr.ex x8).ex x9).app (.cons t9 .nil)).ex xp
                      · rcases List.mem_append.mp hws with z | z
                        · exact hrw ws z
                        · rw [List.mem_singleton.mp z]; exact ⟨by omega, w9⟩
                      · exact Ex.own (x06.f B nB) ((x7.trans x8).trans x9) (xp.mono fun b hb => by simp at hb; simp [hb])
                      · exact (K9.keepP xp (fun a ha => by rw [List.mem_singleton.mp ha]; exact Bp)).mono (by omega)
                    · intro H7 ⟨rs, rows, hB, tr, hrl, hrw, x7, K7⟩
                      have rsl := tr.len
                      rw [List.length_map] at rsl
                      refine ⟨.ref B, rfl, B, _, rfl, .inl ⟨.of hB, fun t1 m1 => ?_⟩⟩
                      refine ⟨(by show 2 ≤ sizeLine; decide), fun t2 m2 => ?_⟩
                      have y1 : Ex [] H7 (upd H7 t1 (.tup rs)) := .new m1
                      refine q _ _ _ ((x7.trans y1.nil).trans (.new m2)) (((K7.keep0 y1).keep0 (.new m2)).mono (by omega)) (Tp.new m2 (.cons (.str _) (.cons (.tup (.of upd_same) (tr.ex y1)) .nil))) (.choose ?_ ?_ (fun ws h => (hrw ws h).1) (fun ws h => (hrw ws h).2))
                      · intro z; rw [z] at hrl; simp at hrl; omega
                      · omega
                  · refine itN (fun e => e18 (V.int.inj e)) ?_
                    obtain ⟨nl, dl1, hnl, stl⟩ := K2.dr (by omega)
                    refine ⟨.ref kt, rfl, .int deep, rfl, deep, 1, rfl, rfl, .ref kt, rfl, kt, _, rfl, K2.deck, Z.d, 3, nl, rfl, dl1, hnl, by decide, by decide, fun H8 y8 y80 y81 e8 d8 => ?_⟩
                    obtain ⟨x8, K8⟩ := stl H8 e8 d8
                    refine ⟨1, y8, rfl, rfl, .int loops, rfl, loops, 1, rfl, rfl, ?_⟩
                    rw [RW]
                    refine ⟨kt, Z, D, _, deep + 1, 1 + y8.toNat, loops + 1, loop_args y80, K8, by omega, by omega, by omega, by omega, fun H9 v9 ws9 x9 K9 t9 l9 w9 => ?_⟩
                    refine ⟨(by show 2 ≤ sizeLine; decide), fun t2 m2 => ?_⟩
                    exact q _ _ _ (((x2.trans x8).trans x9).trans (.new m2)) ((K9.keep0 (.new m2)).mono (by omega)) (Tp.new m2 (.cons (.str _) (.cons t9 .nil))) (.loop (by omega) w9)
        · refine itN c12 (iteF ?_)
          refine ⟨.int way, rfl, way, 10, rfl, rfl, _, rfl, ?_⟩
          by_cases c10 : way < 10
          · refine itD c10 ?_
            refine ⟨.str x, rfl, .str y, rfl, (by show 3 ≤ sizeLine; decide), fun t1 m1 => ?_⟩
            refine ⟨.str x, rfl, .str y, rfl, .str z, rfl, (by show 4 ≤ sizeLine; decide), fun t2 m2 => ?_⟩
            refine ⟨.str x, rfl, .str y, rfl, (by show 3 ≤ sizeLine; decide), fun t3 m3 => ?_⟩
            refine ⟨.str x, rfl, (by show 2 ≤ sizeLine; decide), fun t4 m4 => ?_⟩
            refine ⟨.str x, rfl, (by show 2 ≤ sizeLine; decide), fun t5 m5 => ?_⟩
            refine ⟨(by show 5 ≤ sizeLine; decide), fun L mL => ?_⟩
            have y1 : Ex [] H2 _ := .new (o := .tup [.str (Str.ofString "copy"), .str x, .str y]) m1
            have y2 : Ex [] _ _ := .new (o := .tup [.str (Str.ofString "mix"), .str x, .str y, .str z]) m2
            have y3 : Ex [] _ _ := .new (o := .tup [.str (Str.ofString "open"), .str x, .str y]) m3
            have y4 : Ex [] _ _ := .new (o := .tup [.str (Str.ofString "tell"), .str x]) m4
            have y5 : Ex [] _ _ := .new (o := .tup [.str (Str.ofString "wipe"), .str x]) m5
            have y6 : Ex [] _ _ := .new (o := .lst [.ref t1, .ref t2, .ref t3, .ref t4, .ref t5]) mL
            have h1 := ((((y2.trans y3).trans y4).trans y5).trans y6).tup upd_same
            have h2 := (((y3.trans y4).trans y5).trans y6).tup upd_same
            have h3 := ((y4.trans y5).trans y6).tup upd_same
            have h4 := (y5.trans y6).tup upd_same
            have h5 := y6.tup upd_same
            have xx := x2.trans (((((y1.trans y2).trans y3).trans y4).trans y5).trans y6).nil
            have Kx := K2.keep0 (((((y1.trans y2).trans y3).trans y4).trans y5).trans y6)
            have hL := upd_same (H := upd (upd (upd (upd (upd H2 t1 (.tup [.str (Str.ofString "copy"), .str x, .str y])) t2 (.tup [.str (Str.ofString "mix"), .str x, .str y, .str z])) t3 (.tup [.str (Str.ofString "open"), .str x, .str y])) t4 (.tup [.str (Str.ofString "tell"), .str x])) t5 (.tup [.str (Str.ofString "wipe"), .str x])) (a := L) (o := .lst [.ref t1, .ref t2, .ref t3, .ref t4, .ref t5])
            have Lp : L ∉ parts kt Z := (K2.keep0 ((((y1.trans y2).trans y3).trans y4).trans y5)).off mL
            generalize upd (upd (upd (upd (upd (upd H2 t1 (.tup [.str (Str.ofString "copy"), .str x, .str y])) t2 (.tup [.str (Str.ofString "mix"), .str x, .str y, .str z])) t3 (.tup [.str (Str.ofString "open"), .str x, .str y])) t4 (.tup [.str (Str.ofString "tell"), .str x])) t5 (.tup [.str (Str.ofString "wipe"), .str x])) L (.lst [.ref t1, .ref t2, .ref t3, .ref t4, .ref t5]) = H8 at h1 h2 h3 h4 h5 xx Kx hL
            have Ld : L ≠ Z.d := fun e => Lp (by rw [e]; simp [parts])
            have Lk : L ≠ kt := fun e => Lp (by rw [e]; simp [parts])
            obtain ⟨n1, d1, hn1, st1⟩ := Kx.dr (by omega)
            refine ⟨.ref L, rfl, .str x, rfl, .ref kt, rfl, kt, _, rfl, Kx.deck, Z.d, 10000, n1, rfl, d1, hn1, by decide, by decide, fun H9 u u0 u1 e9 d9 => ?_⟩
            obtain ⟨x9, K9⟩ := st1 H9 e9 d9
            refine ⟨(by show 3 ≤ sizeLine; decide), fun M mM => ?_⟩
            have z1 : Ex [] H9 (upd H9 M (.lst [.int u, .int 9999, .int 0])) := .new mM
            have Mp := K9.off mM
            have K10 := K9.keep0 z1
            obtain ⟨n2, d2, hn2, st2⟩ := K10.dr (by omega)
            refine ⟨.ref kt, rfl, kt, _, rfl, K10.deck, Z.d, 3, n2, rfl, d2, hn2, by decide, by decide, fun H11 j j0 j1 e11 d11 => ?_⟩
            obtain ⟨x11, K11⟩ := st2 H11 e11 d11
            have hM := x11.lst (upd_same (H := H9) (a := M) (o := .lst [.int u, .int 9999, .int 0])) (by
              have a1 : M ≠ Z.d := fun e => Mp (by rw [e]; simp [parts])
              have a2 : M ≠ kt := fun e => Mp (by rw [e]; simp [parts])
              simp [a1, a2])
            obtain ⟨i, hi1, hi2, hi3⟩ : ∃ i : Int, atI [V.int u, V.int 9999, V.int 0] j = some (.int i) ∧ 0 ≤ i ∧ i ≤ 9999 := by
              have h : j = 0 ∨ j = 1 ∨ j = 2 := by omega
              rcases h with rfl | rfl | rfl
              · exact ⟨u, rfl, u0, by omega⟩
              · exact ⟨9999, rfl, by decide, by decide⟩
              · exact ⟨0, rfl, by decide, by decide⟩
            refine ⟨M, _, j, .int i, rfl, rfl, .of hM, hi1, (by show 3 ≤ sizeLine; decide), fun t6 m6 => ?_⟩
            refine ⟨(by show 1 ≤ sizeLine; decide), fun L3 m7 => ?_⟩
            have w1 : Ex [] H11 _ := .new (o := .tup [.str (Str.ofString "number"), .str x, .int i]) m6
            have w2 : Ex [] _ _ := .new (o := .lst [.ref t6]) m7
            have hL11 := (w1.trans w2).lst (x11.lst (z1.lst (x9.lst hL (by simp [Ld, Lk]))) (by simp [Ld, Lk]))
            refine ⟨L, L3, _, _, rfl, rfl, hL11, upd_same, (by show 6 ≤ sizeLine; decide), fun L4 m8 => ?_⟩
            have w3 : Ex [] _ _ := .new (o := .lst ([.ref t1, .ref t2, .ref t3, .ref t4, .ref t5] ++ [.ref t6])) m8
            have toEnd : Ex [Z.d, kt] H8 _ := ((x9.trans z1.nil).trans x11).trans ((w1.trans w2).trans w3).nil
            have g6 := (w2.trans w3).tup (upd_same (H := H11) (a := t6) (o := .tup [.str (Str.ofString "number"), .str x, .int i]))
            have Kend := K11.keep0 ((w1.trans w2).trans w3)
            have xend := xx.trans toEnd
            refine ⟨.int way, rfl, way, 4, rfl, rfl, L4, [.ref t1, .ref t2, .ref t3, .ref t4, .ref t5] ++ [.ref t6], way - 4, ?_⟩
            have hc : way = 4 ∨ way = 5 ∨ way = 6 ∨ way = 7 ∨ way = 8 ∨ way = 9 := by omega
            rcases hc with rfl | rfl | rfl | rfl | rfl | rfl
            · exact ⟨.ref t1, rfl, rfl, .of upd_same, rfl, q _ _ _ xend (Kend.mono (by omega)) (.tup (.of (toEnd.tup h1)) (.cons (.str _) (.cons (.str _) (.cons (.str _) .nil)))) (.copy bx by_)⟩
            · exact ⟨.ref t2, rfl, rfl, .of upd_same, rfl, q _ _ _ xend (Kend.mono (by omega)) (.tup (.of (toEnd.tup h2)) (.cons (.str _) (.cons (.str _) (.cons (.str _) (.cons (.str _) .nil))))) (.mix bx by_ bz)⟩
            · exact ⟨.ref t3, rfl, rfl, .of upd_same, rfl, q _ _ _ xend (Kend.mono (by omega)) (.tup (.of (toEnd.tup h3)) (.cons (.str _) (.cons (.str _) (.cons (.str _) .nil)))) (.opens bx by_)⟩
            · exact ⟨.ref t4, rfl, rfl, .of upd_same, rfl, q _ _ _ xend (Kend.mono (by omega)) (.tup (.of (toEnd.tup h4)) (.cons (.str _) (.cons (.str _) .nil))) (.tell bx)⟩
            · exact ⟨.ref t5, rfl, rfl, .of upd_same, rfl, q _ _ _ xend (Kend.mono (by omega)) (.tup (.of (toEnd.tup h5)) (.cons (.str _) (.cons (.str _) .nil))) (.wipe bx)⟩
            · exact ⟨.ref t6, rfl, rfl, .of upd_same, rfl, q _ _ _ xend (Kend.mono (by omega)) (.tup (.of g6) (.cons (.str _) (.cons (.str _) (.cons (.int _) .nil)))) (.number bx hi2 hi3)⟩
          · refine itN c10 ?_
            refine ⟨.int way, rfl, rfl, _, rfl, ?_⟩
            by_cases e10 : way = 10
            · refine itD (congrArg V.int e10) ?_
              refine ⟨.ref kt, rfl, .ref kt, rfl, kt, _, rfl, K2.records, kt, Z.r, Z, D, _, _, rfl, K2, by omega, K2.r, K2.nr, rne, rln, fun H3 v hv x3 K3 => ?_⟩
              obtain ⟨wz, hwz, ez⟩ := List.mem_map.mp hv
              subst ez
              refine ⟨(by show 2 ≤ sizeLine; decide), fun p np => ?_⟩
              exact q _ _ _ ((x2.trans x3).trans (.new np)) ((K3.keep0 (.new np)).mono (by omega)) (Tp.new np (.cons (.str _) (.cons (.str _) .nil))) (.clear hwz)
            · refine itN (fun e => e10 (V.int.inj e)) ?_
              refine ⟨.int way, rfl, rfl, _, rfl, ?_⟩
              by_cases e11 : way = 11
              · refine itD (congrArg V.int e11) ?_
                obtain ⟨nn, d1, hn, st⟩ := K2.dr (by omega)
                refine ⟨.ref kt, rfl, .ref kt, rfl, kt, _, rfl, K2.deck, Z.d, 3, nn, rfl, d1, hn, by decide, by decide, fun H3 u u0 u1 e0 d2 => ?_⟩
                obtain ⟨x3, K3⟩ := st H3 e0 d2
                refine ⟨1, u, rfl, rfl, kt, Z, D, _, 1 + u.toNat, un_args u0, K3, by omega, by omega, fun H4 v4 xs4 t4 s4 l4 x4 K4 => ?_⟩
                refine ⟨(by show 2 ≤ sizeLine; decide), fun p np => ?_⟩
                exact q _ _ _ (((x2.trans x3).trans x4).trans (.new np)) ((K4.keep0 (.new np)).mono (by omega)) (Tp.new np (.cons (.str _) (.cons t4 .nil))) (.drop s4 (fun e => by rw [e] at l4; simp at l4; omega))
              · refine itN (fun e => e11 (V.int.inj e)) ?_
                refine ⟨.int way, rfl, rfl, _, rfl, ?_⟩
                have e12 : way = 12 := by omega
                refine itD (congrArg V.int e12) ?_
                refine ⟨.ref kt, rfl, .ref kt, rfl, kt, _, rfl, K2.worths, kt, Z.wt, Z, D, _, _, rfl, K2, by omega, K2.wt, K2.nw, wne, wln, fun H3 v hv x3 K3 => ?_⟩
                obtain ⟨wz, hwz, ez⟩ := List.mem_map.mp hv
                subst ez
                refine ⟨(by show 2 ≤ sizeLine; decide), fun p np => ?_⟩
                exact q _ _ _ ((x2.trans x3).trans (.new np)) ((K3.keep0 (.new np)).mono (by omega)) (Tp.new np (.cons (.str _) (.cons (.str _) .nil))) (.risk hwz)
end
end K03

set_option maxHeartbeats 8000000
namespace K03
open PySem PySem.Spec PyProof.Rows L2 Kk
abbrev s_kit : Stmt := topS 13
abbrev n_kit : List Str := ["_law_deck_here", "_law_names_here", "_law_boxes_here", "_law_words", "_law_kit_here"]
theorem sc_kit : FnScope n_kit ["_law_deck_here"] (defScope s_kit) := ⟨rfl, rfl, rfl, by decide +kernel, rfl, by decide +kernel, by decide +kernel⟩

def dotS : Str := Str.ofString "."
/-- what a kit is made of -/
structure DmX (D : Dm) (e w0 w1 w2 w3 w4 w5 w6 w7 w8 w9 w10 w11 w12 w13 w14 w15 w16 w17 w18 w19 : Str) : Prop where
  bx : D.boxes = [w0, w1, w2, w0 ++ dotS ++ w3, e ++ dotS ++ w3, e ++ dotS ++ w1]
  rc : D.recs = [w0, e, w2]
  wt : D.worths = [w6, w7, w8, w9] ∨ D.worths = ["same", "way", "left", "by"].map Str.ofString
  cl : D.called = [w10, w11, w12, w13, w14, w15]
  kn : D.known = []
  nd : [w0, w1, w2, w3, w4, w5, w6, w7, w8, w9, w10, w11, w12, w13, w14, w15, w16, w17, w18, w19].Nodup
  nm : ∀ z ∈ [w0, w1, w2, w3, w4, w5, w6, w7, w8, w9, w10, w11, w12, w13, w14, w15, w16, w17, w18, w19], NmG z
  e4 : e = w4 ∨ e = w0 ++ Str.ofString "y"
  l0 : w0.length ≤ 7
theorem nw {H : Hp} {p : Addr} {o : HO} (n : H p = none) : Ex [] H (upd H p o) ∧ (upd H p o) p = some o := ⟨.new n, upd_same⟩
theorem pw {H : Hp} {p : Addr} {u o : HO} (h : H p = some u) (t : NoTb u := by first | exact nt_lst | exact nt_dK) (fx : Fx u = false := by rfl) : Ex [p] H (upd H p o) ∧ (upd H p o) p = some o := ⟨.put h t (by simp) fx, upd_same⟩
theorem nf {H : Hp} {p : Addr} {o : HO} (h : H p = some o) (n : H p = none) : False := by rw [h] at n; cases n
theorem ne_free {H : Hp} {p : Addr} (n : H p = none) {a : Addr} {o : HO} (h : H a = some o) : a ≠ p := ne_of_none h n
theorem ne_dict {H : Hp} {p : Addr} {kvs : List (Key × V)} (n : H p = some (.dK kvs)) {a : Addr} {xs : List V} (h : H a = some (.lst xs)) : a ∉ [p] := fun z => by rw [List.mem_singleton.mp z, n] at h; cases h
section
variable {P : Program} {w : World} {K : PySem.W.Frag} {mg : Str → Option Value} {base : Heap}
def spKit (K : PySem.W.Frag) : Sp := fun vs H Q _ => ∃ (d : Addr) (n : Nat), vs = [.ref d] ∧ Deck H d n ∧ n ≤ 100 ∧
  ∀ H' kt Z D e w0 w1 w2 w3 w4 w5 w6 w7 w8 w9 w10 w11 w12 w13 w14 w15 w16 w17 w18 w19, Z.d = d → H kt = none → H Z.kn = none → Ex [d] H H' → Kit K H' kt Z D (n + 812) → DmX D e w0 w1 w2 w3 w4 w5 w6 w7 w8 w9 w10 w11 w12 w13 w14 w15 w16 w17 w18 w19 → Q (.ref kt) H'
theorem ok_kit {f fD fN : Addr} {fd fdD fdN : FuncData} {k : Nat} (F : Fun K "_law_kit" "_law_kit" s_kit f fd) (C__law_draw : Cl P w K mg base k "_law_draw" ["_law_deck_here", "_law_many_here"] spDraw fD fdD)
    (C__law_names : Cl P w K mg base k "_law_names" ["_law_deck_here", "_law_many_here"] spNames fN fdN) : FnOk P w K mg base CX0 (k + 1) f fd ["_law_deck_here"] (spKit K) := by
  refine F.ok sc_kit (fun vs H Q E h => ?_) (fun cdv A outer s H vs Q E hr h => ?_)
  · obtain ⟨d, n, rfl, _⟩ := h; rfl
  · obtain ⟨d, n, rfl, hD, hn, q⟩ := h
    refine ⟨_, (pss_cons (ps_set (i := 1) sc_kit.nd rfl (.inl rfl) (pe_call C__law_names.g hr (by rfl) C__law_names.m C__law_names.k C__law_names.b .nil pass0 (pa_cons (pv 0) (pa_cons pe_int pa_nil))))
      (pss_cons (ps_if (pt_cmpR op_eq (pe_call C__law_draw.g hr (by rfl) C__law_draw.m C__law_draw.k C__law_draw.b .nil pass0 (pa_cons (pv 0) (pa_cons pe_int pa_nil))) pe_int (nomark _)) (pss_one (ps_asg (pe_op op_add_str (pe_ix ix_list (pv 1) pe_int (fun _ _ => rfl)) pe_str) (pg_sub (pv 1) pe_int set_list))) pss_nil)
      (pss_cons (ps_set (i := 2) sc_kit.nd rfl (.inl rfl) (pe_op op_cat (pe_slice sl_list (pv 1) po_none (po_some pe_int)) (pe_lst (pa_cons (pe_op op_add_str (pe_op op_add_str (pe_ix ix_list (pv 1) pe_int (fun _ _ => rfl)) pe_str) (pe_ix ix_list (pv 1) pe_int (fun _ _ => rfl))) (pa_cons (pe_op op_add_str (pe_op op_add_str (pe_ix ix_list (pv 1) pe_int (fun _ _ => rfl)) pe_str) (pe_ix ix_list (pv 1) pe_int (fun _ _ => rfl))) (pa_cons (pe_op op_add_str (pe_op op_add_str (pe_ix ix_list (pv 1) pe_int (fun _ _ => rfl)) pe_str) (pe_ix ix_list (pv 1) pe_int (fun _ _ => rfl))) pa_nil))))))
      (pss_cons (ps_set (i := 3) sc_kit.nd rfl (.inl rfl) (pe_ix ix_list (pe_lst (pa_cons (pe_slice sl_list (pv 1) (po_some pe_int) (po_some pe_int)) (pa_cons (pe_lst (pa_cons pe_str (pa_cons pe_str (pa_cons pe_str (pa_cons pe_str pa_nil))))) pa_nil))) (pe_call C__law_draw.g hr (by rfl) C__law_draw.m C__law_draw.k C__law_draw.b .nil pass0 (pa_cons (pv 0) (pa_cons pe_int pa_nil))) (fun _ _ => rfl)))
      (pss_cons (ps_set (i := 4) sc_kit.nd rfl (.inl rfl) (pe_disp (pps_cons pe_str (pv 0) (pps_cons pe_str (pv 2) (pps_cons pe_str (pe_lst (pa_cons (pe_ix ix_list (pv 1) pe_int (fun _ _ => rfl)) (pa_cons (pe_ix ix_list (pv 1) pe_int (fun _ _ => rfl)) (pa_cons (pe_ix ix_list (pv 1) pe_int (fun _ _ => rfl)) pa_nil)))) (pps_cons pe_str (pv 3) pps_nil)))) (by rfl) (by rfl) (fun z => by cases z) (by decide)))
      (pss_cons (ps_expr (pe_bm PySem.F.plainAttrs_dict PySem.F.slot_dict_update PySem.F.type_dict_update mt_update (pv 4) (pa_cons (pe_disp (pps_cons pe_str (pe_slice sl_list (pv 1) (po_some pe_int) (po_some pe_int)) (pps_cons pe_str (pe_lst pa_nil) (pps_cons pe_str pe_int pps_nil))) (by rfl) (by rfl) (fun z => by cases z) (by decide)) pa_nil)))
      (pss_one (ps_ret (pv 4))))))))), ?_⟩
    refine ⟨.ref d, rfl, d, 20, n, rfl, hD, by omega, by decide, fun H1 p ws np x1 D1 hp hwl hws hnd hz0 => ?_⟩
    obtain ⟨w0, w1, w2, w3, w4, w5, w6, w7, w8, w9, w10, w11, w12, w13, w14, w15, w16, w17, w18, w19, rfl⟩ : ∃ w0 w1 w2 w3 w4 w5 w6 w7 w8 w9 w10 w11 w12 w13 w14 w15 w16 w17 w18 w19, ws = [w0, w1, w2, w3, w4, w5, w6, w7, w8, w9, w10, w11, w12, w13, w14, w15, w16, w17, w18, w19] := by
      match ws, hwl with
      | [w0, w1, w2, w3, w4, w5, w6, w7, w8, w9, w10, w11, w12, w13, w14, w15, w16, w17, w18, w19], _ => exact ⟨w0, w1, w2, w3, w4, w5, w6, w7, w8, w9, w10, w11, w12, w13, w14, w15, w16, w17, w18, w19, rfl⟩
    have l0 := hz0 w0 rfl
    have pd : p ≠ d := fun z => by obtain ⟨_, q⟩ := hD.some; rw [← z, np] at q; cases q
    have nmL : ∀ z ∈ [w0, w1, w2, w3, w4, w5, w6, w7, w8, w9, w10, w11, w12, w13, w14, w15, w16, w17, w18, w19], z.length ≤ 8 := fun z hz => (hws z hz).hi
    -- a draw: the fourth name
    refine ⟨.ref d, rfl, d, 4, n + 10, rfl, D1, by omega, by decide, by decide, fun H2 u u0 u1 x2 D2 => ?_⟩
    have hp2 := x2.lst hp (by simpa using pd)
    have x02 : Ex [d] H H2 := x1.trans x2
    have yl : (Str.ofString "y").length = 1 := by decide +kernel
    have dl : dotS.length = 1 := by decide +kernel
    have sm : ∀ n : Nat, n ≤ 1000 → n ≤ sizeLine := fun n h => Nat.le_trans h (by decide)
    refine ⟨rfl, _, rfl, ?_⟩
    have el4 : w4.length ≤ 8 := nmL w4 (by simp)
    have el0 : w0.length ≤ 8 := nmL w0 (by simp)
    have el1 : w1.length ≤ 8 := nmL w1 (by simp)
    have el3 : w3.length ≤ 8 := nmL w3 (by simp)
    refine ite2 (fun c1 => ?_) (fun c1 => ?_)
    · refine ⟨.ref p, rfl, p, _, 0, .str w0, rfl, rfl, .of hp2, rfl, w0, Str.ofString "y", rfl, rfl, sm _ (by omega), .ref p, rfl, p, _, 4, 4, rfl, rfl, hp2, rfl, ?_⟩
      have el : (w0 ++ Str.ofString "y").length ≤ 9 := by rw [len_add, yl]; omega
      obtain ⟨x3, hp3⟩ := pw (o := .lst ([w0, w1, w2, w3, (w0 ++ Str.ofString "y"), w5, w6, w7, w8, w9, w10, w11, w12, w13, w14, w15, w16, w17, w18, w19].map V.str)) hp2
      have x03 := Ex.own np x02 (x3.mono (ys := [p, d]) fun b hb => by simp at hb; simp [hb])
      have D3 := D2.ex x3 (by simpa using pd.symm)
      -- boxes
      refine ⟨.ref p, rfl, 3, rfl, p, _, rfl, .of hp3, fun s1 m1 => ?_⟩
      obtain ⟨y1, hs1⟩ := nw (o := .lst [.str w0, .str w1, .str w2]) m1
      have hp4 := y1.lst hp3
      refine ⟨.ref p, rfl, p, _, 0, .str w0, rfl, rfl, .of hp4, rfl, w0, dotS, rfl, rfl, sm _ (by omega), .ref p, rfl, p, _, 3, .str w3, rfl, rfl, .of hp4, rfl, _, w3, rfl, rfl, sm _ (by rw [len_add]; omega), .ref p, rfl, p, _, 4, .str (w0 ++ Str.ofString "y"), rfl, rfl, .of hp4, rfl, (w0 ++ Str.ofString "y"), dotS, rfl, rfl, sm _ (by omega), .ref p, rfl, p, _, 3, .str w3, rfl, rfl, .of hp4, rfl, _, w3, rfl, rfl, sm _ (by rw [len_add]; omega), .ref p, rfl, p, _, 4, .str (w0 ++ Str.ofString "y"), rfl, rfl, .of hp4, rfl, (w0 ++ Str.ofString "y"), dotS, rfl, rfl, sm _ (by omega), .ref p, rfl, p, _, 1, .str w1, rfl, rfl, .of hp4, rfl, _, w1, rfl, rfl, sm _ (by rw [len_add]; omega), (by show 3 ≤ sizeLine; decide), fun l2 m2 => ?_⟩
      obtain ⟨y2, hl2⟩ := nw (o := .lst [.str (w0 ++ dotS ++ w3), .str ((w0 ++ Str.ofString "y") ++ dotS ++ w3), .str ((w0 ++ Str.ofString "y") ++ dotS ++ w1)]) m2
      refine ⟨s1, l2, [.str w0, .str w1, .str w2], _, rfl, rfl, y2.lst hs1, hl2, (by show 6 ≤ sizeLine; decide), fun b m3 => ?_⟩
      obtain ⟨y3, hb5⟩ := nw (o := .lst ([.str w0, .str w1, .str w2] ++ [.str (w0 ++ dotS ++ w3), .str ((w0 ++ Str.ofString "y") ++ dotS ++ w3), .str ((w0 ++ Str.ofString "y") ++ dotS ++ w1)])) m3
      have y13 := (y1.trans y2).trans y3
      have hp5 := y13.lst hp3
      have D5 := D3.ex y13 (by simp)
      have nb0 : H b = none := x03.f b ((y1.trans y2).f b m3)
      have x05 := x03.trans y13.nil
      have nbp : b ≠ p := fun z => by rw [z] at m3; exact nf ((y1.trans y2).lst hp3) m3
      have bd : b ≠ d := fun z => by obtain ⟨_, q⟩ := hD.some; rw [← z, nb0] at q; cases q
      -- worths
      refine ⟨.ref p, rfl, 6, rfl, 10, rfl, p, _, rfl, .of hp5, fun s2 m4 => ?_⟩
      obtain ⟨y4, hs2⟩ := nw (o := .lst [.str w6, .str w7, .str w8, .str w9]) m4
      refine ⟨(by show 4 ≤ sizeLine; decide), fun l3 m5 => ?_⟩
      obtain ⟨y5, hl3⟩ := nw (o := .lst [.str (Str.ofString "same"), .str (Str.ofString "way"), .str (Str.ofString "left"), .str (Str.ofString "by")]) m5
      refine ⟨(by show 2 ≤ sizeLine; decide), fun l4 m6 => ?_⟩
      obtain ⟨y6, hl4⟩ := nw (o := .lst [.ref s2, .ref l3]) m6
      have y46 := (y4.trans y5).trans y6
      have ds2 : s2 ≠ d := fun z => by obtain ⟨_, q⟩ := hD.some; exact nf q (by rw [← z]; exact x05.f s2 m4)
      have dl3 : l3 ≠ d := fun z => by obtain ⟨_, q⟩ := hD.some; exact nf q (by rw [← z]; exact x05.f l3 (y4.f l3 m5))
      have dl4 : l4 ≠ d := fun z => by obtain ⟨_, q⟩ := hD.some; exact nf q (by rw [← z]; exact x05.f l4 ((y4.trans y5).f l4 m6))
      refine ⟨.ref d, rfl, d, 2, n + 11, rfl, D5.ex y46 (by simp), by omega, by decide, by decide, fun H7 j j0 j1 x7 D7 => ?_⟩
      have hl7 := x7.lst hl4 (by simpa using dl4)
      obtain ⟨wt, Ws, hat, hwt, hWs, wd⟩ : ∃ (wt : Addr) (Ws : List Str), atI [V.ref s2, V.ref l3] j = some (.ref wt) ∧ H7 wt = some (.lst (Ws.map V.str)) ∧ (Ws = [w6, w7, w8, w9] ∨ Ws = ["same", "way", "left", "by"].map Str.ofString) ∧ wt ≠ d := by
        have h : j = 0 ∨ j = 1 := by omega
        rcases h with rfl | rfl
        · exact ⟨s2, [w6, w7, w8, w9], rfl, x7.lst ((y5.trans y6).lst hs2) (by simpa using ds2), .inl rfl, ds2⟩
        · exact ⟨l3, ["same", "way", "left", "by"].map Str.ofString, rfl, x7.lst (y6.lst hl3) (by simpa using dl3), .inr rfl, dl3⟩
      refine ⟨l4, _, j, .ref wt, rfl, rfl, .of hl7, hat, ?_⟩
      have x07 := (x05.trans y46.nil).trans x7
      have hp7 := x7.lst (y46.lst hp5) (by simpa using pd)
      have hb7 := x7.lst (y46.lst hb5) (by simpa using bd)
      -- the kit
      refine fun kt mk => ?_
      obtain ⟨z0, hk8⟩ := nw (o := .dK []) mk
      have hp8 := z0.lst hp7
      refine ⟨.ref d, rfl, .ref b, rfl, .ref p, rfl, p, _, 0, .str w0, rfl, rfl, .of hp8, rfl, .ref p, rfl, p, _, 4, .str (w0 ++ Str.ofString "y"), rfl, rfl, .of hp8, rfl, .ref p, rfl, p, _, 2, .str w2, rfl, rfl, .of hp8, rfl, (by show 3 ≤ sizeLine; decide), fun r m7 => ?_⟩
      obtain ⟨z1, hr8⟩ := nw (o := .lst [.str w0, .str (w0 ++ Str.ofString "y"), .str w2]) m7
      refine ⟨.ref wt, rfl, z1.dK hk8, [(ky "deck", .ref d), (ky "boxes", .ref b), (ky "records", .ref r), (ky "worths", .ref wt)], rfl, (by show 4 ≤ 15; decide), ?_⟩
      obtain ⟨z2, hk9⟩ := pw (o := .dK [(ky "deck", .ref d), (ky "boxes", .ref b), (ky "records", .ref r), (ky "worths", .ref wt)]) (z1.dK hk8)
      have kr : r ≠ kt := fun z => by rw [z] at m7; exact nf hk8 m7
      have nkt := @ne_free _ _ mk
      have z02 := (z0.trans z1).nil.trans z2
      have hr9 := z2.lst hr8 (by simpa using kr)
      have hp9 := z02.lst hp7 (by simpa using nkt hp7)
      have hb9 := z02.lst hb7 (by simpa using nkt hb7)
      have hw9 := z02.lst hwt (by simpa using nkt hwt)
      obtain ⟨dx, hdx⟩ := D7.some
      have D9 := D7.ex z02 (by simpa using nkt hdx)
      have nkt0 : H kt = none := x07.f kt mk
      have x09 := Ex.own (xs := [d]) nkt0 x07 (z02.mono fun b hb => by simp at hb; simp [hb])
      have rd : r ≠ d := fun z => by rw [z] at m7; exact nf hdx (z0.f d m7)
      have kd : kt ≠ d := (nkt hdx).symm
      -- update
      refine ⟨.ref kt, rfl, .inr (.inr (.inl ⟨rfl, .inl ⟨_, hk9⟩⟩)), fun k2 mk2 => ?_⟩
      obtain ⟨v0, hk20⟩ := nw (o := .dK []) mk2
      have hp10 := v0.lst hp9
      refine ⟨.ref p, rfl, 10, rfl, 16, rfl, p, _, rfl, .of hp10, fun c m8 => ?_⟩
      obtain ⟨v1, hc10⟩ := nw (o := .lst [.str w10, .str w11, .str w12, .str w13, .str w14, .str w15]) m8
      refine ⟨(by show 0 ≤ sizeLine; decide), fun kn m9 => ?_⟩
      obtain ⟨v2, hn11⟩ := nw (o := .lst []) m9
      refine ⟨(v1.trans v2).dK hk20, [(ky "called", .ref c), (ky "known", .ref kn), (ky "left", .int 40)], rfl, (by show 3 ≤ 15; decide), ?_⟩
      obtain ⟨v3, h212⟩ := pw (o := .dK [(ky "called", .ref c), (ky "known", .ref kn), (ky "left", .int 40)]) ((v1.trans v2).dK hk20)
      have hc11 := v2.lst hc10
      have nk2 := @ne_free _ _ mk2
      have ck2 : c ≠ k2 := fun z => by rw [z] at m8; exact nf hk20 m8
      have nnk2 : kn ≠ k2 := fun z => by rw [z] at m9; exact nf (v1.dK hk20) m9
      have v03 := ((v0.trans v1).trans v2).nil.trans v3
      have hk12 := v03.dK hk9 (by simpa using nk2 hk9)
      refine ⟨kt, k2, _, _, rfl, rfl, nk2 hk9, hk12, h212, (by show 7 ≤ sizeLine; decide), (by show 7 ≤ sizeLine; decide), ?_⟩
      have kx1 : kn ≠ b := (ne_of_none ((v0.trans v1).lst hb9) m9).symm
      have kx2 : kn ≠ r := (ne_of_none ((v0.trans v1).lst hr9) m9).symm
      have kx3 : kn ≠ wt := (ne_of_none ((v0.trans v1).lst hw9) m9).symm
      have kx4 : kn ≠ c := (ne_of_none hc10 m9).symm
      obtain ⟨v4, hk13⟩ := pw (o := .dK (kitL ⟨d, b, r, wt, c, kn⟩ 40)) hk12
      have cd : c ≠ d := fun z => by rw [z] at m8; obtain ⟨_, q⟩ := D9.some; exact nf q (v0.f d m8)
      have nd : kn ≠ d := fun z => by rw [z] at m9; obtain ⟨_, q⟩ := D9.some; exact nf q ((v0.trans v1).f d m9)
      have ckt : c ≠ kt := fun z => by rw [z] at m8; exact nf hk9 (v0.f kt m8)
      have nkt2 : kn ≠ kt := fun z => by rw [z] at m9; exact nf hk9 ((v0.trans v1).f kt m9)
      have nl := @ne_dict _ _ _ hk9
      obtain ⟨dx9, hdx9⟩ := D9.some
      refine ⟨.ref kt, rfl, q _ kt ⟨d, b, r, wt, c, kn⟩ ⟨[w0, w1, w2, w0 ++ dotS ++ w3, (w0 ++ Str.ofString "y") ++ dotS ++ w3, (w0 ++ Str.ofString "y") ++ dotS ++ w1], [w0, (w0 ++ Str.ofString "y"), w2], Ws, [w10, w11, w12, w13, w14, w15], []⟩ (w0 ++ Str.ofString "y") w0 w1 w2 w3 w4 w5 w6 w7 w8 w9 w10 w11 w12 w13 w14 w15 w16 w17 w18 w19 rfl nkt0 (x09.f kn ((v0.trans v1).f kn m9)) ?_ ?_ ⟨rfl, rfl, hWs, rfl, rfl, hnd, hws, .inr rfl, l0⟩⟩
      · exact Ex.own nkt0 (Ex.own (x09.f k2 mk2) (x09.trans ((v0.trans v1).trans v2).nil) (v3.mono fun b hb => by simp at hb; simp [hb])) (v4.mono fun b hb => by simp at hb; simp [hb])
      · refine ⟨⟨n + 12, 40, hk13, (D9.ex v03 (by simpa using nk2 hdx9)).ex v4 (nl hdx9), by decide, by omega⟩, v4.lst (v03.lst hb9 (by simpa using nk2 hb9)) (nl hb9), v4.lst (v03.lst hr9 (by simpa using nk2 hr9)) (nl hr9), v4.lst (v03.lst hw9 (by simpa using nk2 hw9)) (nl hw9), ?_, ⟨[], ?_, .nil⟩, bd, rd, wd, cd, nd, ⟨kx1, kx2, kx3, kx4⟩, rfl, by simp, ?_, ?_, by simp⟩
        · exact v4.lst (v3.lst hc11 (by simpa using ck2)) (by simpa using ckt)
        · exact v4.lst (v3.lst hn11 (by simpa using nnk2)) (by simpa using nkt2)
        · rcases hWs with z | z <;> rw [z] <;> simp
        · rcases hWs with z | z <;> rw [z] <;> simp
    · have el : w4.length ≤ 9 := by omega
      have x03 := x02
      have hp3 := hp2
      have D3 := D2
      -- boxes
      refine ⟨.ref p, rfl, 3, rfl, p, _, rfl, .of hp3, fun s1 m1 => ?_⟩
      obtain ⟨y1, hs1⟩ := nw (o := .lst [.str w0, .str w1, .str w2]) m1
      have hp4 := y1.lst hp3
      refine ⟨.ref p, rfl, p, _, 0, .str w0, rfl, rfl, .of hp4, rfl, w0, dotS, rfl, rfl, sm _ (by omega), .ref p, rfl, p, _, 3, .str w3, rfl, rfl, .of hp4, rfl, _, w3, rfl, rfl, sm _ (by rw [len_add]; omega), .ref p, rfl, p, _, 4, .str w4, rfl, rfl, .of hp4, rfl, w4, dotS, rfl, rfl, sm _ (by omega), .ref p, rfl, p, _, 3, .str w3, rfl, rfl, .of hp4, rfl, _, w3, rfl, rfl, sm _ (by rw [len_add]; omega), .ref p, rfl, p, _, 4, .str w4, rfl, rfl, .of hp4, rfl, w4, dotS, rfl, rfl, sm _ (by omega), .ref p, rfl, p, _, 1, .str w1, rfl, rfl, .of hp4, rfl, _, w1, rfl, rfl, sm _ (by rw [len_add]; omega), (by show 3 ≤ sizeLine; decide), fun l2 m2 => ?_⟩
      obtain ⟨y2, hl2⟩ := nw (o := .lst [.str (w0 ++ dotS ++ w3), .str (w4 ++ dotS ++ w3), .str (w4 ++ dotS ++ w1)]) m2
      refine ⟨s1, l2, [.str w0, .str w1, .str w2], _, rfl, rfl, y2.lst hs1, hl2, (by show 6 ≤ sizeLine; decide), fun b m3 => ?_⟩
      obtain ⟨y3, hb5⟩ := nw (o := .lst ([.str w0, .str w1, .str w2] ++ [.str (w0 ++ dotS ++ w3), .str (w4 ++ dotS ++ w3), .str (w4 ++ dotS ++ w1)])) m3
      have y13 := (y1.trans y2).trans y3
      have hp5 := y13.lst hp3
      have D5 := D3.ex y13 (by simp)
      have nb0 : H b = none := x03.f b ((y1.trans y2).f b m3)
      have x05 := x03.trans y13.nil
      have nbp : b ≠ p := fun z => by rw [z] at m3; exact nf ((y1.trans y2).lst hp3) m3
      have bd : b ≠ d := fun z => by obtain ⟨_, q⟩ := hD.some; rw [← z, nb0] at q; cases q
      -- worths
      refine ⟨.ref p, rfl, 6, rfl, 10, rfl, p, _, rfl, .of hp5, fun s2 m4 => ?_⟩
      obtain ⟨y4, hs2⟩ := nw (o := .lst [.str w6, .str w7, .str w8, .str w9]) m4
      refine ⟨(by show 4 ≤ sizeLine; decide), fun l3 m5 => ?_⟩
      obtain ⟨y5, hl3⟩ := nw (o := .lst [.str (Str.ofString "same"), .str (Str.ofString "way"), .str (Str.ofString "left"), .str (Str.ofString "by")]) m5
      refine ⟨(by show 2 ≤ sizeLine; decide), fun l4 m6 => ?_⟩
      obtain ⟨y6, hl4⟩ := nw (o := .lst [.ref s2, .ref l3]) m6
      have y46 := (y4.trans y5).trans y6
      have ds2 : s2 ≠ d := fun z => by obtain ⟨_, q⟩ := hD.some; exact nf q (by rw [← z]; exact x05.f s2 m4)
      have dl3 : l3 ≠ d := fun z => by obtain ⟨_, q⟩ := hD.some; exact nf q (by rw [← z]; exact x05.f l3 (y4.f l3 m5))
      have dl4 : l4 ≠ d := fun z => by obtain ⟨_, q⟩ := hD.some; exact nf q (by rw [← z]; exact x05.f l4 ((y4.trans y5).f l4 m6))
      refine ⟨.ref d, rfl, d, 2, n + 11, rfl, D5.ex y46 (by simp), by omega, by decide, by decide, fun H7 j j0 j1 x7 D7 => ?_⟩
      have hl7 := x7.lst hl4 (by simpa using dl4)
      obtain ⟨wt, Ws, hat, hwt, hWs, wd⟩ : ∃ (wt : Addr) (Ws : List Str), atI [V.ref s2, V.ref l3] j = some (.ref wt) ∧ H7 wt = some (.lst (Ws.map V.str)) ∧ (Ws = [w6, w7, w8, w9] ∨ Ws = ["same", "way", "left", "by"].map Str.ofString) ∧ wt ≠ d := by
        have h : j = 0 ∨ j = 1 := by omega
        rcases h with rfl | rfl
        · exact ⟨s2, [w6, w7, w8, w9], rfl, x7.lst ((y5.trans y6).lst hs2) (by simpa using ds2), .inl rfl, ds2⟩
        · exact ⟨l3, ["same", "way", "left", "by"].map Str.ofString, rfl, x7.lst (y6.lst hl3) (by simpa using dl3), .inr rfl, dl3⟩
      refine ⟨l4, _, j, .ref wt, rfl, rfl, .of hl7, hat, ?_⟩
      have x07 := (x05.trans y46.nil).trans x7
      have hp7 := x7.lst (y46.lst hp5) (by simpa using pd)
      have hb7 := x7.lst (y46.lst hb5) (by simpa using bd)
      -- the kit
      refine fun kt mk => ?_
      obtain ⟨z0, hk8⟩ := nw (o := .dK []) mk
      have hp8 := z0.lst hp7
      refine ⟨.ref d, rfl, .ref b, rfl, .ref p, rfl, p, _, 0, .str w0, rfl, rfl, .of hp8, rfl, .ref p, rfl, p, _, 4, .str w4, rfl, rfl, .of hp8, rfl, .ref p, rfl, p, _, 2, .str w2, rfl, rfl, .of hp8, rfl, (by show 3 ≤ sizeLine; decide), fun r m7 => ?_⟩
      obtain ⟨z1, hr8⟩ := nw (o := .lst [.str w0, .str w4, .str w2]) m7
      refine ⟨.ref wt, rfl, z1.dK hk8, [(ky "deck", .ref d), (ky "boxes", .ref b), (ky "records", .ref r), (ky "worths", .ref wt)], rfl, (by show 4 ≤ 15; decide), ?_⟩
      obtain ⟨z2, hk9⟩ := pw (o := .dK [(ky "deck", .ref d), (ky "boxes", .ref b), (ky "records", .ref r), (ky "worths", .ref wt)]) (z1.dK hk8)
      have kr : r ≠ kt := fun z => by rw [z] at m7; exact nf hk8 m7
      have nkt := @ne_free _ _ mk
      have z02 := (z0.trans z1).nil.trans z2
      have hr9 := z2.lst hr8 (by simpa using kr)
      have hp9 := z02.lst hp7 (by simpa using nkt hp7)
      have hb9 := z02.lst hb7 (by simpa using nkt hb7)
      have hw9 := z02.lst hwt (by simpa using nkt hwt)
      obtain ⟨dx, hdx⟩ := D7.some
      have D9 := D7.ex z02 (by simpa using nkt hdx)
      have nkt0 : H kt = none := x07.f kt mk
      have x09 := Ex.own (xs := [d]) nkt0 x07 (z02.mono fun b hb => by simp at hb; simp [hb])
      have rd : r ≠ d := fun z => by rw [z] at m7; exact nf hdx (z0.f d m7)
      have kd : kt ≠ d := (nkt hdx).symm
      -- update
      refine ⟨.ref kt, rfl, .inr (.inr (.inl ⟨rfl, .inl ⟨_, hk9⟩⟩)), fun k2 mk2 => ?_⟩
      obtain ⟨v0, hk20⟩ := nw (o := .dK []) mk2
      have hp10 := v0.lst hp9
      refine ⟨.ref p, rfl, 10, rfl, 16, rfl, p, _, rfl, .of hp10, fun c m8 => ?_⟩
      obtain ⟨v1, hc10⟩ := nw (o := .lst [.str w10, .str w11, .str w12, .str w13, .str w14, .str w15]) m8
      refine ⟨(by show 0 ≤ sizeLine; decide), fun kn m9 => ?_⟩
      obtain ⟨v2, hn11⟩ := nw (o := .lst []) m9
      refine ⟨(v1.trans v2).dK hk20, [(ky "called", .ref c), (ky "known", .ref kn), (ky "left", .int 40)], rfl, (by show 3 ≤ 15; decide), ?_⟩
      obtain ⟨v3, h212⟩ := pw (o := .dK [(ky "called", .ref c), (ky "known", .ref kn), (ky "left", .int 40)]) ((v1.trans v2).dK hk20)
      have hc11 := v2.lst hc10
      have nk2 := @ne_free _ _ mk2
      have ck2 : c ≠ k2 := fun z => by rw [z] at m8; exact nf hk20 m8
      have nnk2 : kn ≠ k2 := fun z => by rw [z] at m9; exact nf (v1.dK hk20) m9
      have v03 := ((v0.trans v1).trans v2).nil.trans v3
      have hk12 := v03.dK hk9 (by simpa using nk2 hk9)
      refine ⟨kt, k2, _, _, rfl, rfl, nk2 hk9, hk12, h212, (by show 7 ≤ sizeLine; decide), (by show 7 ≤ sizeLine; decide), ?_⟩
      have kx1 : kn ≠ b := (ne_of_none ((v0.trans v1).lst hb9) m9).symm
      have kx2 : kn ≠ r := (ne_of_none ((v0.trans v1).lst hr9) m9).symm
      have kx3 : kn ≠ wt := (ne_of_none ((v0.trans v1).lst hw9) m9).symm
      have kx4 : kn ≠ c := (ne_of_none hc10 m9).symm
      obtain ⟨v4, hk13⟩ := pw (o := .dK (kitL ⟨d, b, r, wt, c, kn⟩ 40)) hk12
      have cd : c ≠ d := fun z => by rw [z] at m8; obtain ⟨_, q⟩ := D9.some; exact nf q (v0.f d m8)
      have nd : kn ≠ d := fun z => by rw [z] at m9; obtain ⟨_, q⟩ := D9.some; exact nf q ((v0.trans v1).f d m9)
      have ckt : c ≠ kt := fun z => by rw [z] at m8; exact nf hk9 (v0.f kt m8)
      have nkt2 : kn ≠ kt := fun z => by rw [z] at m9; exact nf hk9 ((v0.trans v1).f kt m9)
      have nl := @ne_dict _ _ _ hk9
      obtain ⟨dx9, hdx9⟩ := D9.some
      refine ⟨.ref kt, rfl, q _ kt ⟨d, b, r, wt, c, kn⟩ ⟨[w0, w1, w2, w0 ++ dotS ++ w3, w4 ++ dotS ++ w3, w4 ++ dotS ++ w1], [w0, w4, w2], Ws, [w10, w11, w12, w13, w14, w15], []⟩ w4 w0 w1 w2 w3 w4 w5 w6 w7 w8 w9 w10 w11 w12 w13 w14 w15 w16 w17 w18 w19 rfl nkt0 (x09.f kn ((v0.trans v1).f kn m9)) ?_ ?_ ⟨rfl, rfl, hWs, rfl, rfl, hnd, hws, .inl rfl, l0⟩⟩
      · exact Ex.own nkt0 (Ex.own (x09.f k2 mk2) (x09.trans ((v0.trans v1).trans v2).nil) (v3.mono fun b hb => by simp at hb; simp [hb])) (v4.mono fun b hb => by simp at hb; simp [hb])
      · refine ⟨⟨n + 12, 40, hk13, (D9.ex v03 (by simpa using nk2 hdx9)).ex v4 (nl hdx9), by decide, by omega⟩, v4.lst (v03.lst hb9 (by simpa using nk2 hb9)) (nl hb9), v4.lst (v03.lst hr9 (by simpa using nk2 hr9)) (nl hr9), v4.lst (v03.lst hw9 (by simpa using nk2 hw9)) (nl hw9), ?_, ⟨[], ?_, .nil⟩, bd, rd, wd, cd, nd, ⟨kx1, kx2, kx3, kx4⟩, rfl, by simp, ?_, ?_, by simp⟩
        · exact v4.lst (v3.lst hc11 (by simpa using ck2)) (by simpa using ckt)
        · exact v4.lst (v3.lst hn11 (by simpa using nnk2)) (by simpa using nkt2)
        · rcases hWs with z | z <;> rw [z] <;> simp
        · rcases hWs with z | z <;> rw [z] <;> simp
end
end K03

set_option maxHeartbeats 8000000
namespace K03
open PySem PySem.Spec PyProof.Rows L2 Kk
abbrev s_program : Stmt := topS 18
abbrev n_program : List Str := ["_law_kit_here", "_law_most", "_law_defs", "_law_name", "_law_wide", "_law_takes", "_law_gives", "_law_row_here"]
theorem sc_program : FnScope n_program ["_law_kit_here", "_law_most"] (defScope s_program) := ⟨rfl, rfl, rfl, by decide +kernel, rfl, by decide +kernel, by decide +kernel⟩

/-- a def, as data -/
structure DfX where
  a : Str
  xs : List Str
  ys : List Str
  ws : List PyData
def DfX.d (x : DfX) : PyData := .tuple [.str x.a, tsL x.xs, tsL x.ys, .tuple x.ws]
def DfX.k (x : DfX) : Str × Nat × Nat := (x.a, x.xs.length, x.ys.length)
def Dm.wk (D : Dm) (ks : List (Str × Nat × Nat)) : Dm := { D with known := ks }
/-- defs as they are drawn: by the names in their order, each by those ahead -/
structure DefsOk (D : Dm) (ds : List DfX) : Prop where
  nm : ds.map DfX.a = D.called.take ds.length
  ar : ∀ x ∈ ds, Kk.Sub D x.xs ∧ Kk.Sub D x.ys ∧ x.xs.length ≤ 4 ∧ x.ys.length ≤ 4 ∧ x.ws.length ≤ 12
  rw : ∀ i x, ds[i]? = some x → ∀ y ∈ x.ws, Wd (Dm.wk D ((ds.take i).map DfX.k)) 3 0 y
def progD (ds : List DfX) (main : List PyData) : PyData := .tuple [.tuple (ds.map DfX.d), .tuple main]
theorem Kit.learn {K : PySem.W.Frag} {H : Hp} {kt : Addr} {Z : KitA} {D : Dm} {F : Int} {p : Str × Nat × Nat} {v : V} {ks : List V} (h : Kit K H kt Z D F) (hk : H Z.kn = some (.lst ks)) (t : Tp K H v (knD p)) (s : p.2.1 ≤ 4 ∧ p.2.2 ≤ 4) (l : D.known.length < 100) :
    Ex [Z.kn] H (upd H Z.kn (.lst (ks ++ [v]))) ∧ Kit K (upd H Z.kn (.lst (ks ++ [v]))) kt Z (Dm.wk D (D.known ++ [p])) F := by
  have e : Ex [Z.kn] H (upd H Z.kn (.lst (ks ++ [v]))) := .put hk nt_lst (by simp)
  obtain ⟨n, lf, h1, h2, h3, h4⟩ := h.ex
  obtain ⟨ks', k1, k2⟩ := h.kn
  obtain ⟨c1, c2, c3, c4⟩ := h.nkx
  have ek : ks' = ks := by rw [hk] at k1; cases k1; rfl
  subst ek
  have kk : kt ∉ [Z.kn] := fun z => by rw [List.mem_singleton.mp z, hk] at h1; cases h1
  refine ⟨e, { h with ex := ⟨n, lf, e.dK h1 kk, h2.ex e (by simpa using h.nk.symm), h3, h4⟩, b := e.lst h.b (by simpa using c1.symm), r := e.lst h.r (by simpa using c2.symm), wt := e.lst h.wt (by simpa using c3.symm), c := e.lst h.c (by simpa using c4.symm), kn := ⟨ks' ++ [v], upd_same, ?_⟩, wl2 := ⟨h.wl2.1, h.wl2.2.1, ?_⟩, small := ?_ }⟩
  · show TpAll K _ _ ((D.known ++ [p]).map knD)
    rw [List.map_append]
    exact (k2.app (.cons t .nil)).ex e
  · show (D.known ++ [p]).length ≤ 100
    rw [List.length_append]; simp; omega
  · intro q hq
    have hq : q ∈ D.known ++ [p] := hq
    rcases List.mem_append.mp hq with z | z
    · exact h.small q z
    · rw [List.mem_singleton.mp z]; exact s
theorem cut_take {xs : List V} {u : Int} (h0 : 0 ≤ u) (h1 : u.toNat ≤ xs.length) : cutV xs none (some u) = xs.take u.toNat := by
  unfold cutV
  have e : HT.sIx xs.length xs.length (some u) = u.toNat := by
    show (if u < 0 then (u + (xs.length : Int)).toNat else min u.toNat xs.length) = _
    rw [if_neg (by omega)]; omega
  rw [e]; rfl
theorem row_args {kt : Addr} {m : Int} (h : 0 ≤ m) : [V.ref kt, V.int 1, V.int (1 + m), V.int 0] = [.ref kt, .int ((1 : Nat) : Int), .int ((1 + m.toNat : Nat) : Int), .int ((0 : Nat) : Int)] := by
  have e : ((1 + m.toNat : Nat) : Int) = 1 + m := by omega
  rw [e]; rfl
theorem two_args {kt : Addr} {t : Int} (h : 0 ≤ t) : [V.ref kt, V.int t] = [.ref kt, .int ((t.toNat : Nat) : Int)] := by rw [Int.toNat_of_nonneg h]
section
variable {P : Program} {w : World} {K : PySem.W.Frag} {mg : Str → Option Value} {base : Heap}
def spProgram (K : PySem.W.Frag) : Sp := fun vs H Q _ => ∃ (kt : Addr) (Z : KitA) (D : Dm) (F : Int) (most : Nat), vs = [.ref kt, .int most] ∧ Kit K H kt Z D F ∧ F ≤ 5000 ∧ D.known = [] ∧ most ≤ D.called.length ∧ D.called.length ≤ 6 ∧
  ∀ H' v ds main, Ex [Z.d, kt, Z.kn] H H' → Kit K H' kt Z (Dm.wk D (ds.map DfX.k)) (F + 300) → Tp K H' v (progD ds main) → DefsOk D ds → ds.length ≤ most → main.length ≤ 12 → (∀ y ∈ main, Wd (Dm.wk D (ds.map DfX.k)) 4 0 y) → Q v H'
theorem ok_program {f fD fU fR : Addr} {fd fdD fdU fdR : FuncData} {k : Nat} (F : Fun K "_law_program" "_law_program" s_program f fd) (C__law_draw : Cl P w K mg base k "_law_draw" ["_law_deck_here", "_law_many_here"] spDraw fD fdD)
    (C__law_unlike : Cl P w K mg base k "_law_unlike" ["_law_kit_here", "_law_many_here"] (spUnlike K) fU fdU)
    (CR3 : Cl P w K mg base k "_law_row" ["_law_kit_here", "_law_deep", "_law_many_here", "_law_loops"] (spRow K 3) fR fdR) (CR4 : Cl P w K mg base k "_law_row" ["_law_kit_here", "_law_deep", "_law_many_here", "_law_loops"] (spRow K 4) fR fdR)
    (m_int : mg "int" = none) (m_max : mg "max" = none) (m_tuple : mg "tuple" = none) : FnOk P w K mg base CX0 (k + 1) f fd ["_law_kit_here", "_law_most"] (spProgram K) := by
  refine F.ok sc_program (fun vs H Q E h => ?_) (fun cdv A outer s H vs Q E hr h => ?_)
  · obtain ⟨kt, Z, D, F, most, rfl, _⟩ := h; rfl
  · obtain ⟨kt, Z, D, F, most, rfl, hK, hF, hkn, hmo, hcl, q⟩ := h
    refine ⟨_, (pss_cons (ps_set (i := 2) sc_program.nd rfl (.inl rfl) (pe_lst pa_nil))
      (pss_cons (ps_for PassesOwn.never rfl (pi_list (pe_slice sl_list (pe_dget (hu_of hr) (pv 0) pe_str (fun _ _ => rfl)) po_none (po_some (pe_call C__law_draw.g hr (by rfl) C__law_draw.m C__law_draw.k C__law_draw.b .nil pass0 (pa_cons (pe_dget (hu_of hr) (pv 0) pe_str (fun _ _ => rfl)) (pa_cons (pe_op op_add (pv 1) pe_int) pa_nil)))))) (pg_name (i := 3) sc_program.nd rfl (.inl rfl)) (pss_cons (ps_set (i := 4) sc_program.nd rfl (.inl rfl) (pe_op op_add pe_int (pe_op op_mul pe_int (pe_callTy call_int1 (by rfl) m_int (by decide +kernel) (pa_cons (pe_cmpR op_eq (pe_call C__law_draw.g hr (by rfl) C__law_draw.m C__law_draw.k C__law_draw.b .nil pass0 (pa_cons (pe_dget (hu_of hr) (pv 0) pe_str (fun _ _ => rfl)) (pa_cons pe_int pa_nil))) pe_int (nomark _)) pa_nil)))))
      (pss_cons (ps_set (i := 5) sc_program.nd rfl (.inl rfl) (pe_call C__law_draw.g hr (by rfl) C__law_draw.m C__law_draw.k C__law_draw.b .nil pass0 (pa_cons (pe_dget (hu_of hr) (pv 0) pe_str (fun _ _ => rfl)) (pa_cons (pv 4) pa_nil))))
      (pss_cons (ps_set (i := 6) sc_program.nd rfl (.inl rfl) (pe_call C__law_draw.g hr (by rfl) C__law_draw.m C__law_draw.k C__law_draw.b .nil pass0 (pa_cons (pe_dget (hu_of hr) (pv 0) pe_str (fun _ _ => rfl)) (pa_cons (pv 4) pa_nil))))
      (pss_cons (ps_set (i := 7) sc_program.nd rfl (.inl rfl) (pe_call CR3.g hr (by rfl) CR3.m CR3.k CR3.b .nil pass0 (pa_cons (pv 0) (pa_cons pe_int (pa_cons (pe_op op_add pe_int (pe_call C__law_draw.g hr (by rfl) C__law_draw.m C__law_draw.k C__law_draw.b .nil pass0 (pa_cons (pe_dget (hu_of hr) (pv 0) pe_str (fun _ _ => rfl)) (pa_cons pe_int pa_nil)))) (pa_cons pe_int pa_nil))))))
      (pss_cons (ps_expr (pe_bm PySem.F.plainAttrs_list PySem.F.slot_list_append PySem.F.type_list_append mt_append (pv 2) (pa_cons (pe_tup (pa_cons (pv 3) (pa_cons (pe_call C__law_unlike.g hr (by rfl) C__law_unlike.m C__law_unlike.k C__law_unlike.b .nil pass0 (pa_cons (pv 0) (pa_cons (pv 5) pa_nil))) (pa_cons (pe_call C__law_unlike.g hr (by rfl) C__law_unlike.m C__law_unlike.k C__law_unlike.b .nil pass0 (pa_cons (pv 0) (pa_cons (pv 6) pa_nil))) (pa_cons (pv 7) pa_nil))))) pa_nil)))
      (pss_one (ps_expr (pe_bm PySem.F.plainAttrs_list PySem.F.slot_list_append PySem.F.type_list_append mt_append (pe_dget (hu_of hr) (pv 0) pe_str (fun _ _ => rfl)) (pa_cons (pe_tup (pa_cons (pv 3) (pa_cons (pv 5) (pa_cons (pv 6) pa_nil)))) pa_nil))))))))))
      (pss_cons (ps_dput (hu_of hr) (pv 0) pe_str (pe_callB (call_max2 rfl) (by rfl) m_max (by decide +kernel) (pa_cons (pe_dget (hu_of hr) (pv 0) pe_str (fun _ _ => rfl)) (pa_cons pe_int pa_nil))) rfl)
      (pss_one (ps_ret (pe_tup (pa_cons (pe_callTy call_tuple_of (by rfl) m_tuple (by decide +kernel) (pa_cons (pv 2) pa_nil)) (pa_cons (pe_call CR4.g hr (by rfl) CR4.m CR4.k CR4.b .nil pass0 (pa_cons (pv 0) (pa_cons pe_int (pa_cons (pe_ix ix_list (pe_lst (pa_cons pe_int (pa_cons pe_int (pa_cons pe_int (pa_cons pe_int pa_nil))))) (pe_call C__law_draw.g hr (by rfl) C__law_draw.m C__law_draw.k C__law_draw.b .nil pass0 (pa_cons (pe_dget (hu_of hr) (pv 0) pe_str (fun _ _ => rfl)) (pa_cons pe_int pa_nil))) (fun _ _ => rfl)) (pa_cons pe_int pa_nil))))) pa_nil)))))))), ?_⟩
    have X3 : ∀ {H1 H2 : Hp}, Ex [Z.d, kt] H1 H2 → Ex [Z.d, kt, Z.kn] H1 H2 := fun e => e.mono fun b hb => by simp at hb; rcases hb with rfl | rfl <;> simp
    refine ⟨(by show 0 ≤ sizeLine; decide), fun G nG => ?_⟩
    have Gp := hK.off nG
    have g1 : G ≠ Z.d := fun z => Gp (by rw [z]; simp [parts])
    have g2 : G ≠ kt := fun z => Gp (by rw [z]; simp [parts])
    have g3 : G ≠ Z.kn := fun z => Gp (by rw [z]; simp [parts])
    obtain ⟨y0, hG0⟩ := nw (o := .lst []) nG
    have K0 := hK.keep0 y0
    obtain ⟨nn, d1, hn, st⟩ := K0.dr (by omega)
    refine ⟨.ref kt, rfl, kt, _, rfl, K0.called, .ref kt, rfl, kt, _, rfl, K0.deck, .int most, rfl, most, 1, rfl, rfl, Z.d, _, nn, rfl, d1, hn, by omega, by omega, fun H1 u u0 u1 e0 d2 => ?_⟩
    obtain ⟨x1, K1⟩ := st H1 e0 d2
    refine ⟨u, rfl, Z.c, _, rfl, .of K1.c, fun S nS => ?_⟩
    have ecut : cutV (D.called.map V.str) none (some u) = (D.called.take u.toNat).map V.str := by
      rw [cut_take u0 (by rw [List.length_map]; omega), List.map_take]
    rw [ecut]
    obtain ⟨yS, hS0⟩ := nw (o := .lst ((D.called.take u.toNat).map V.str)) nS
    have Sp_ := K1.off nS
    have s1 : S ≠ Z.d := fun z => Sp_ (by rw [z]; simp [parts])
    have s2 : S ≠ kt := fun z => Sp_ (by rw [z]; simp [parts])
    have s3 : S ≠ Z.kn := fun z => Sp_ (by rw [z]; simp [parts])
    have hG1 := x1.lst hG0 (by simp [g1, g2])
    have SG : S ≠ G := (ne_of_none hG1 nS).symm
    have K1S := K1.keep0 yS
    have hGS := yS.lst hG1
    have xS : Ex [Z.d, kt, Z.kn] H (upd H1 S (.lst ((D.called.take u.toNat).map V.str))) := (y0.nil.trans (X3 x1)).trans yS.nil
    generalize upd H1 S (.lst ((D.called.take u.toNat).map V.str)) = HS at hS0 K1S hGS xS
    have hlen : (D.called.take u.toNat).length = u.toNat := by rw [List.length_take]; omega
    have eD : D = Dm.wk D (([] : List DfX).map DfX.k) := by cases D; cases hkn; rfl
    refine ⟨S, rfl, ⟨_, .of hS0⟩, for_list (a := S) (xs := (D.called.take u.toNat).map V.str) (fun i σ H2 => ∃ (gs : List V) (ds : List DfX) (y3 y4 y5 y6 y7 : Option V), σ = [some (.ref kt), some (.int most), some (.ref G), y3, y4, y5, y6, y7] ∧
      H2 G = some (.lst gs) ∧ TpAll K H2 gs (ds.map DfX.d) ∧ ds.length = i ∧ DefsOk D ds ∧ H2 S = some (.lst ((D.called.take u.toNat).map V.str)) ∧ Ex [Z.d, kt, Z.kn] H H2 ∧ Kit K H2 kt Z (Dm.wk D (ds.map DfX.k)) (F + 1 + 12 * i)) ?_ ?_ ?_ ?_⟩
    · refine ⟨[], [], _, _, _, _, _, rfl, hGS, .nil, rfl, ⟨rfl, by simp, by simp⟩, hS0, xS, ?_⟩
      rw [← eD]; exact K1S.mono (by omega)
    · intro i σ H2 _ ⟨gs, ds, y3, y4, y5, y6, y7, _, _, _, _, _, hS2, _⟩
      exact .of hS2
    · intro i x σ H2 hx ⟨gs, ds, y3, y4, y5, y6, y7, es, hG2, tg, hdl, hdo, hS2, x2, K2⟩
      subst es
      rw [List.getElem?_map] at hx
      cases ha : (D.called.take u.toNat)[i]? with
      | none => rw [ha] at hx; cases hx
      | some a =>
        rw [ha] at hx
        cases hx
        have hi : i < u.toNat := by rw [← hlen]; exact (List.getElem?_eq_some_iff.mp ha).1
        obtain ⟨n3, d3, hn3, st3⟩ := K2.dr (by omega)
        refine ⟨.ref kt, rfl, kt, _, rfl, K2.deck, Z.d, 8, n3, rfl, d3, hn3, by decide, by decide, fun H3 u3 u30 u31 e3 dd3 => ?_⟩
        obtain ⟨x3, K3⟩ := st3 H3 e3 dd3
        refine ⟨rfl, .inr ⟨_, rfl, 2, _, rfl, rfl, .inl ⟨by decide, by decide⟩, 3, _, rfl, rfl, ?_⟩⟩
        have hW : (3 : Int) ≤ 3 + 2 * (if decide (V.int u3 = V.int 5) = true then 1 else 0) ∧ (3 : Int) + 2 * (if decide (V.int u3 = V.int 5) = true then 1 else 0) ≤ 5 := by split <;> decide
        obtain ⟨n4, d4, hn4, st4⟩ := K3.dr (by omega)
        refine ⟨.ref kt, rfl, kt, _, rfl, K3.deck, _, rfl, Z.d, _, n4, rfl, d4, hn4, Int.lt_of_lt_of_le (by decide) hW.1, Int.lt_of_le_of_lt hW.2 (by decide), fun H4 t t0 t1 e4 dd4 => ?_⟩
        have t1 : t < 5 := Int.lt_of_lt_of_le t1 hW.2
        obtain ⟨x4, K4⟩ := st4 H4 e4 dd4
        obtain ⟨n5, d5, hn5, st5⟩ := K4.dr (by omega)
        refine ⟨.ref kt, rfl, kt, _, rfl, K4.deck, _, rfl, Z.d, _, n5, rfl, d5, hn5, Int.lt_of_lt_of_le (by decide) hW.1, Int.lt_of_le_of_lt hW.2 (by decide), fun H5 g g0 g1' e5 dd5 => ?_⟩
        have g1' : g < 5 := Int.lt_of_lt_of_le g1' hW.2
        obtain ⟨x5, K5⟩ := st5 H5 e5 dd5
        obtain ⟨n6, d6, hn6, st6⟩ := K5.dr (by omega)
        refine ⟨.ref kt, rfl, .ref kt, rfl, kt, _, rfl, K5.deck, Z.d, 4, n6, rfl, d6, hn6, by decide, by decide, fun H6 m m0 m1 e6 dd6 => ?_⟩
        obtain ⟨x6, K6⟩ := st6 H6 e6 dd6
        refine ⟨1, m, rfl, rfl, kt, Z, _, _, 1, 1 + m.toNat, 0, row_args m0, K6, by omega, rfl, by omega, by omega, fun H7 v7 ws7 x7 K7 t7 l7 w7 => ?_⟩
        have x27 := (((x3.trans x4).trans x5).trans x6).trans x7
        have hG7 := x27.lst hG2 (by simp [g1, g2])
        refine ⟨.ref G, rfl, .inl ⟨rfl, _, .of hG7⟩, .str a, rfl, .ref kt, rfl, .int t, rfl, kt, Z, _, _, t.toNat, two_args t0, K7, by omega, by omega, fun H8 v8 xs8 t8 s8 l8 x8 K8 => ?_⟩
        refine ⟨.ref kt, rfl, .int g, rfl, kt, Z, _, _, g.toNat, two_args g0, K8, by omega, by omega, fun H9 v9 xs9 t9 s9 l9 x9 K9 => ?_⟩
        have x29 := (x27.trans x8).trans x9
        have hG9 := x29.lst hG2 (by simp [g1, g2])
        refine ⟨v7, rfl, (by show 4 ≤ sizeLine; decide), fun T nT => ?_⟩
        obtain ⟨yT, hT⟩ := nw (o := .tup [.str a, v8, v9, v7]) nT
        have hG10 := yT.lst hG9
        have gl : gs.length = i := by rw [tg.len, List.length_map, hdl]
        refine ⟨G, _, _, rfl, rfl, hG10, Nat.lt_of_le_of_lt (show gs.length ≤ 10 by omega) (by decide), ?_⟩
        obtain ⟨yG, hG11⟩ := pw (o := .lst (gs ++ [.ref T])) hG10
        have K11 := (K9.keep0 yT).keepP yG (fun a ha => by rw [List.mem_singleton.mp ha]; exact Gp)
        have TT : Tp K (upd H9 T (.tup [.str a, v8, v9, v7])) (.ref T) (DfX.d ⟨a, xs8, xs9, ws7⟩) := Tp.new nT (.cons (.str _) (.cons (t8.ex x9) (.cons t9 (.cons ((t7.ex x8).ex x9) .nil))))
        have tg11 := (((tg.ex x29).ex yT).app (.cons TT .nil)).ex yG
        have x2_11 : Ex [Z.d, kt, Z.kn] H _ := Ex.own nG (x2.trans ((X3 x29).trans yT.nil)) (yG.mono fun b hb => by simp at hb; simp [hb])
        have hS11 := yG.lst (yT.lst (x29.lst hS2 (by simp [s1, s2]))) (by simpa using SG)
        obtain ⟨kk, hk1, hk2⟩ := K11.kn
        have kl : kk.length = i := by rw [hk2.len, List.length_map]; show (ds.map DfX.k).length = i; rw [List.length_map, hdl]
        refine ⟨.ref kt, rfl, kt, _, rfl, K11.known, .inl ⟨rfl, _, .of hk1⟩, .str a, rfl, .int t, rfl, .int g, rfl, (by show 3 ≤ sizeLine; decide), fun T2 nT2 => ?_⟩
        obtain ⟨yU, hU⟩ := nw (o := .tup [.str a, .int t, .int g]) nT2
        refine ⟨Z.kn, _, _, rfl, rfl, yU.lst hk1, Nat.lt_of_le_of_lt (show kk.length ≤ 10 by omega) (by decide), ?_⟩
        have K12 := K11.keep0 yU
        have eK : knD (a, t.toNat, g.toNat) = .tuple [.str a, .int t, .int g] := by
          unfold knD; rw [Int.toNat_of_nonneg t0, Int.toNat_of_nonneg g0]
        have TU := Tp.new (K := K) nT2 (.cons (.str a) (.cons (.int t) (.cons (.int g) .nil)))
        rw [← eK] at TU
        obtain ⟨yL, K13⟩ := K12.learn (p := (a, t.toNat, g.toNat)) (yU.lst hk1) TU ⟨by show t.toNat ≤ 4; omega, by show g.toNat ≤ 4; omega⟩ (by show (ds.map DfX.k).length < 100; rw [List.length_map]; omega)
        refine ⟨gs ++ [.ref T], ds ++ [(⟨a, xs8, xs9, ws7⟩ : DfX)], _, _, _, _, _, rfl, yL.lst (yU.lst hG11) (by simpa using g3), (by rw [List.map_append]; exact (tg11.ex yU).ex yL), by rw [List.length_append, hdl]; rfl, ?_, yL.lst (yU.lst hS11) (by simpa using s3), (x2_11.trans yU.nil).trans (yL.mono fun b hb => by simp at hb; simp [hb]), ?_⟩
        · refine ⟨?_, fun z hz => ?_, fun j z hz => ?_⟩
          · rw [List.map_append, hdo.nm, List.length_append, hdl]
            have : D.called[i]? = some a := by
              rw [List.getElem?_take, if_pos hi] at ha
              exact ha
            show D.called.take i ++ [a] = D.called.take (i + 1)
            rw [List.take_add_one, this]; rfl
          · rcases List.mem_append.mp hz with z1 | z1
            · exact hdo.ar z z1
            · rw [List.mem_singleton.mp z1]
              exact ⟨s8, s9, by show xs8.length ≤ 4; omega, by show xs9.length ≤ 4; omega, by show ws7.length ≤ 12; omega⟩
          · by_cases hj : j < ds.length
            · rw [List.getElem?_append_left hj] at hz
              rw [List.take_append_of_le_length (Nat.le_of_lt hj)]
              exact hdo.rw j z hz
            · rw [List.getElem?_append_right (by omega)] at hz
              have hj0 : j - ds.length = 0 := by
                cases hq : j - ds.length with
                | zero => rfl
                | succ r => rw [hq] at hz; simp at hz
              rw [hj0] at hz
              cases hz
              have ej : j = ds.length := by omega
              rw [ej, List.take_left]
              exact w7
        · have e13 : Dm.wk (Dm.wk D (ds.map DfX.k)) ((Dm.wk D (ds.map DfX.k)).known ++ [(a, t.toNat, g.toNat)]) = Dm.wk D ((ds ++ [(⟨a, xs8, xs9, ws7⟩ : DfX)]).map DfX.k) := by
            rw [List.map_append]
            show Dm.wk D (ds.map DfX.k ++ [(a, t.toNat, g.toNat)]) = Dm.wk D (ds.map DfX.k ++ [(a, xs8.length, xs9.length)])
            rw [l8, l9]
          rw [e13] at K13
          exact K13.mono (by omega)
    · intro σ H2 ⟨gs, ds, y3, y4, y5, y6, y7, es, hG2, tg, hdl, hdo, hS2, x2, K2⟩
      subst es
      rw [List.length_map, hlen] at hdl K2
      obtain ⟨lf, gl1, l0, pt⟩ := K2.left
      refine ⟨.ref kt, rfl, kt, _, rfl, gl1, lf, 8, rfl, ?_⟩
      generalize eM : (if (8 : Int) > lf then (8 : Int) else lf) = M
      have hM : lf ≤ M ∧ 8 ≤ M ∧ M ≤ lf + 8 := by rw [← eM]; split <;> omega
      obtain ⟨H3, p3, x3, K3⟩ := pt M (by omega)
      refine ⟨.ref kt, rfl, kt, H3, rfl, p3, ?_⟩
      have hG3 := x3.lst hG2 (by simp [g1, g2])
      refine ⟨.ref G, rfl, G, _, rfl, .inl ⟨.of hG3, fun T nT => ?_⟩⟩
      obtain ⟨yT, hT⟩ := nw (o := .tup gs) nT
      have K4 := K3.keep0 yT
      refine ⟨.ref kt, rfl, (by show 4 ≤ sizeLine; decide), fun L nL => ?_⟩
      obtain ⟨yL, hL⟩ := nw (o := .lst [.int 2, .int 5, .int 8, .int 12]) nL
      have Lp := K4.off nL
      have K5 := K4.keep0 yL
      obtain ⟨n6, d6, hn6, st6⟩ := K5.dr (by omega)
      refine ⟨.ref kt, rfl, kt, _, rfl, K5.deck, Z.d, 4, n6, rfl, d6, hn6, by decide, by decide, fun H6 j j0 j1 e6 dd6 => ?_⟩
      obtain ⟨x6, K6⟩ := st6 H6 e6 dd6
      have a1 : L ≠ Z.d := fun z => Lp (by rw [z]; simp [parts])
      have a2 : L ≠ kt := fun z => Lp (by rw [z]; simp [parts])
      obtain ⟨r, hr1, hr2⟩ : ∃ r : Nat, atI [V.int 2, V.int 5, V.int 8, V.int 12] j = some (.int r) ∧ r ≤ 12 := by
        have h : j = 0 ∨ j = 1 ∨ j = 2 ∨ j = 3 := by omega
        rcases h with rfl | rfl | rfl | rfl
        · exact ⟨2, rfl, by decide⟩
        · exact ⟨5, rfl, by decide⟩
        · exact ⟨8, rfl, by decide⟩
        · exact ⟨12, rfl, by decide⟩
      refine ⟨L, _, j, .int r, rfl, rfl, .of (x6.lst hL (by simp [a1, a2])), hr1, kt, Z, _, _, 0, r, 0, rfl, K6, by omega, rfl, by omega, by omega, fun H7 v7 ws7 x7 K7 t7 l7 w7 => ?_⟩
      refine ⟨(by show 2 ≤ sizeLine; decide), fun T3 nT3 => ?_⟩
      have xe := (yT.trans yL).nil.trans (x6.trans x7)
      refine q _ _ ds ws7 (((x2.trans (X3 x3)).trans (X3 xe)).trans (.new nT3)) ((K7.keep0 (.new nT3)).mono (by omega)) (Tp.new nT3 (.cons (.tup (.of (((yL.nil.trans (x6.trans x7)) : Ex [Z.d, kt] _ H7).tup hT)) ((tg.ex x3).ex xe)) (.cons t7 .nil))) hdo (by omega) (by omega) w7
end
end K03

set_option maxHeartbeats 4000000
namespace Kk
open PySem PySem.Spec PyProof.Rows L2
/-! sets of texts -/
def kS (e : Int × Value) : Str := match e.2 with | .str x _ => x | _ => Str.empty
def GS (w : World) (e : Int × Value) : Prop := ∃ x tk, e.2 = Value.str x tk ∧ e.1 = hashStr w x
/-- the set at a: the texts of L -/
def SR (w : World) (h : Heap) (a : Addr) (L : List Str) (n : Nat) : Prop :=
  ∃ o es ep t, h.get? a = some o ∧ o.ExactSet ∧ o.data = .set es ep t ∧ (∀ e ∈ es.toList, GS w e) ∧ (es.toList.map kS).Nodup ∧ (∀ k, k ∈ L ↔ k ∈ es.toList.map kS) ∧
    es.size < scanBound ∧ t.fits es.size = true ∧ es.size = n ∧ Ris t.place.toList ∧ (w.params.followText "set-order" = true ∨ t.led = true)
theorem SR.at {w : World} {h h' : Heap} {a : Addr} {L : List Str} {n : Nat} (R : SR w h a L n) (k : ∀ o, h.get? a = some o → h'.get? a = some o) : SR w h' a L n := by
  obtain ⟨o, es, ep, t, ho, rest⟩ := R
  exact ⟨o, es, ep, t, k o ho, rest⟩
theorem sub_len : ∀ (l B : List Str), l.Nodup → (∀ x ∈ l, x ∈ B) → l.length ≤ B.length
  | [], _, _, _ => Nat.zero_le _
  | x :: l, B, nd, h => by
    obtain ⟨h1, h2⟩ := List.nodup_cons.mp nd
    have hx := h x (List.mem_cons_self ..)
    have ih := sub_len l (B.erase x) h2 fun y hy => by
      have ne : y ≠ x := fun z => h1 (z ▸ hy)
      exact (List.mem_erase_of_ne ne).mpr (h y (List.mem_cons_of_mem _ hy))
    rw [List.length_erase_of_mem hx] at ih
    have := List.length_pos_of_mem hx
    rw [List.length_cons]; omega
section
variable {P : Program} {w : World} {A : Around} {E : Value → Shared → Prop} {s : Shared} {a : Addr} {L : List Str} {n : Nat}
theorem gs_is {e : Int × Value} (g : GS w e) (k : Str) : (PySem.strKind P w).is k e.2 = true ↔ kS e = k := by
  obtain ⟨x, tk, h1, _⟩ := g
  have e1 : kS e = x := by unfold kS; rw [h1]
  rw [e1, h1]
  constructor
  · intro h
    obtain ⟨t, q⟩ := Value.isStrOf_shape (x := k) (v := .str x tk) h
    cases q; rfl
  · intro h; subst h; exact strKind_is P w x tk
theorem gs_elems {l : List (Int × Value)} (g : ∀ e ∈ l, GS w e) : ElemsOf (PySem.strKind P w) l := fun e he => by
  obtain ⟨x, tk, h1, h2⟩ := g e he
  exact ⟨⟨x, by rw [h1]; exact strKind_is P w x tk, h2⟩, by rw [h1]; rfl⟩
theorem gs_mem {l : List (Int × Value)} (g : ∀ e ∈ l, GS w e) (k : Str) : k ∈ l.map kS ↔ ∃ e ∈ l, (PySem.strKind P w).is k e.2 = true := by
  constructor
  · intro h
    obtain ⟨e, he, q⟩ := List.mem_map.mp h
    exact ⟨e, he, (gs_is (g e he) k).mpr q⟩
  · rintro ⟨e, he, q⟩
    exact List.mem_map.mpr ⟨e, he, (gs_is (g e he) k).mp q⟩
theorem sr_tail {gw : Bool → Sem Unit} (hgw : ∀ (b : Bool) (z : Shared) (Q' : Unit → Shared → Prop), Q' () z → wpAny (model P w) A (gw b) Q' E z)
    {o : Obj} {es : Array (Int × Value)} {ep : Nat} {t : SetTable} (ho : s.heap.get? a = some o) (hex : o.ExactSet) (hd : o.data = .set es ep t)
    {fs : Array (Int × Value)} {u : SetTable} {L' : List Str} (gf : ∀ e ∈ fs.toList, GS w e) (nf : (fs.toList.map kS).Nodup) (mf : ∀ k, k ∈ L' ↔ k ∈ fs.toList.map kS)
    (bf : fs.size < scanBound) (ff : u.fits fs.size = true) (rf : Ris u.place.toList) (lf : w.params.followText "set-order" = true ∨ u.led = true) {was : Bool} {R : Option Bool → Shared → Prop}
    (fin : ∀ h', Heap.SameBut a s.heap h' → SR w h' a L' fs.size → R (some true) { s with heap := h' }) :
    wpAny (model P w) A (do
        storeSet a fs u
        if (!was && u.tooFull) = true then do
            gw (relayAll u fs (SetTable.grown fs.size)).2.2
            storeSet a (relayAll u fs (SetTable.grown fs.size)).1 (relayAll u fs (SetTable.grown fs.size)).2.1
            pure (some true)
          else pure (some true)) R E s := by
  refine wpAny_bind (wpAny_storeSet_of ho hd ?_ (fits_of_scanBound bf))
  have at1 := store_at (es' := fs) (t' := u) ho hd
  have same1 := Heap.SameBut.update s.heap a (Obj.putSet fs u)
  split
  · have pm := relayAll_perm u fs (SetTable.grown fs.size)
    have f3 := relayAll_fits u fs (SetTable.grown fs.size)
    have r3 := relayAll_ris u fs (SetTable.grown fs.size)
    have l3 := relayAll_led u fs (SetTable.grown fs.size)
    generalize relayAll u fs (SetTable.grown fs.size) = zz at pm f3 r3 l3 ⊢
    obtain ⟨gs, v, gave⟩ := zz
    dsimp only at pm f3 r3 l3 ⊢
    have sz : gs.size = fs.size := by rw [← Array.length_toList, pm.length_eq, Array.length_toList]
    have b2 : gs.size < scanBound := by rw [sz]; exact bf
    refine wpAny_bind (hgw _ _ _ ?_)
    refine wpAny_bind (wpAny_storeSet_of at1 rfl ?_ (fits_of_scanBound b2))
    have at2 := store_at (es' := gs) (t' := v) at1 rfl
    refine wpAny_pure (fin _ (same1.trans (Heap.SameBut.update _ a _)) ?_)
    exact ⟨_, gs, _, v, at2, hex, rfl, fun e he => gf e (pm.mem_iff.mp he), (pm.map kS).nodup_iff.mpr nf, fun k => (mf k).trans (pm.map kS).mem_iff.symm, b2, f3, sz, r3, lf.imp id fun z => by rw [l3]; exact z⟩
  · exact wpAny_pure (fin _ same1 ⟨_, fs, _, u, at1, hex, rfl, gf, nf, mf, bf, ff, rfl, rf, lf⟩)
theorem sr_add {k : Str} {tk : Tok} {Q : Bool → Shared → Prop} (R : SR w s.heap a L n) (room : n + 1 < scanBound)
    (fin : ∀ (b : Bool) (m : Nat) h', Heap.SameBut a s.heap h' → SR w h' a (L ++ [k]) m → Q b { s with heap := h' }) :
    wpAny (model P w) A (setAddHashed a (.str k tk) ((PySem.strKind P w).hash k)) Q E s := by
  obtain ⟨o, es, ep, t, ho, hex, hd, g, nd, hm, hb, hf, hn, hr, hl⟩ := R
  have isk : (PySem.strKind P w).is k (.str k tk) = true := strKind_is P w k tk
  have scn : (Value.str k tk).scannable = true := rfl
  have els : ElemsOf (PySem.strKind P w) es.toList := gs_elems g
  unfold setAddHashed setAddHashedIn
  refine wpAny_holding (wpAny_bind (wpAny_setState_of ho hd hf ?_))
  dsimp only
  rw [byScan_of scn hb els]
  simp only [↓reduceIte]
  unfold setAddByScan
  refine wpAny_bind ?_
  refine wpAny_bind (wpAny_rule ?_)
  refine wpAny_bind (wpAny_setScan_of isk ho hd hf els ?_)
  cases look : List.findIdx? (fun e => (PySem.strKind P w).is k e.2) es.toList with
  | some j =>
    dsimp only
    obtain ⟨hj, pj, _⟩ := List.findIdx?_eq_some_iff_getElem.mp look
    have inS : k ∈ es.toList.map kS := (gs_mem (P := P) (w := w) g k).2 ⟨es.toList[j], List.getElem_mem hj, pj⟩
    refine wpAny_pure (wpAny_pure ?_)
    refine fin _ n s.heap (Heap.SameBut.refl a s.heap) ⟨o, es, ep, t, ho, hex, hd, g, nd, fun i => ?_, hb, hf, hn, hr, hl⟩
    rw [List.mem_append, hm i, List.mem_singleton]
    exact ⟨fun z => z.elim id fun e => e ▸ inS, .inl⟩
  | none =>
    dsimp only
    have new : k ∉ es.toList.map kS := fun z => by
      obtain ⟨e, he, q⟩ := (gs_mem (P := P) (w := w) g k).1 z
      have c := List.findIdx?_eq_none_iff.mp look e he
      rw [q] at c; cases c
    have gave : ∀ (b : Bool) {z : Shared} {Q' : Unit → Shared → Prop}, Q' () z → wpAny (model P w) A (match b with | true => rule "set.scan.the-table-gave-way" | false => pure ()) Q' E z :=
      fun b z Q' q => by cases b <;> first | exact wpAny_pure q | exact wpAny_rule q
    have pm := layNew_perm t es ((PySem.strKind P w).hash k) (.str k tk)
    have f1 := layNew_fits t es ((PySem.strKind P w).hash k) (.str k tk)
    have r1 := layNew_ris t es ((PySem.strKind P w).hash k) (.str k tk) hr
    have l1 := layNew_led t es ((PySem.strKind P w).hash k) (.str k tk)
    generalize layNew t es ((PySem.strKind P w).hash k) (.str k tk) = zz at pm f1 r1 l1 ⊢
    obtain ⟨fs, u, was, gv⟩ := zz
    dsimp only at pm f1 r1 l1 ⊢
    rw [Array.toList_push] at pm
    have pc : fs.toList.Perm (((PySem.strKind P w).hash k, Value.str k tk) :: es.toList) := pm.trans (List.perm_append_singleton _ _)
    have pk : (fs.toList.map kS).Perm (k :: es.toList.map kS) := pc.map kS
    have gf : ∀ e ∈ fs.toList, GS w e := fun e he => by
      rcases List.mem_cons.mp (pc.mem_iff.mp he) with z | z
      · rw [z]; exact ⟨k, tk, rfl, rfl⟩
      · exact g e z
    have nf : (fs.toList.map kS).Nodup := pk.nodup_iff.mpr (List.nodup_cons.mpr ⟨new, nd⟩)
    have mf : ∀ i, i ∈ L ++ [k] ↔ i ∈ fs.toList.map kS := fun i => by
      rw [List.mem_append, hm i, List.mem_singleton, pk.mem_iff, List.mem_cons]
      exact Or.comm
    have sz : fs.size = n + 1 := by rw [← Array.length_toList, pc.length_eq, List.length_cons, Array.length_toList, hn]
    have b1 : fs.size < scanBound := by rw [sz]; exact room
    have led : w.params.followText "set-order" = true ∨ u.led = true := hl.imp id fun z => by rw [l1]; exact z
    refine wpAny_bind (gave _ ?_)
    split
    · refine wpAny_bind ?_
      rw [hashByValue_scannable 8 scn]
      refine wpAny_pure ?_
      refine sr_tail ?_ ho hex hd gf nf mf b1 ?_ ?_ ?_ ?_
      · intro b z Q' q; cases b <;> first | exact wpAny_pure q | exact wpAny_rule q
      · first | (split <;> first | exact f1 | exact SetTable.fits_plain_off f1) | exact f1
      · first | (split <;> exact r1) | exact r1
      · first | (split <;> exact led) | exact led
      · intro h' sb r; dsimp only; exact wpAny_pure (fin _ _ h' sb r)
    · refine wpAny_bind (wpAny_pure ?_)
      simp only [↓reduceIte]
      refine sr_tail ?_ ho hex hd gf nf mf b1 f1 r1 led ?_
      · intro b z Q' q; cases b <;> first | exact wpAny_pure q | exact wpAny_rule q
      · intro h' sb r; dsimp only; exact wpAny_pure (fin _ _ h' sb r)
theorem sr_room {B : List Str} (R : SR w s.heap a L n) (hB : ∀ x ∈ L, x ∈ B) : n ≤ B.length := by
  obtain ⟨o, es, ep, t, ho, hex, hd, g, nd, hm, hb, hf, hn, hr, hl⟩ := R
  have := sub_len _ B nd fun x hx => hB x ((hm x).2 hx)
  rw [List.length_map, Array.length_toList, hn] at this
  exact this
end
section
variable {prog : Program} {w : World} {A : Around} {R : Result → Shared → Prop} {I : Addr} {fp wr : List Addr} {G : Array GenState → Array GenState → Prop} {m : Nat} {P : Nat → Value → Prop} {St : Nat → Shared → Prop}
theorem sr_loop (W : WalksS prog w A.in1 I fp wr G m P St) (S : Addr) (nS : S ∉ fp) (xs : List Str) (sz : xs.length = m) {B : List Str} (hB : ∀ x ∈ xs, x ∈ B) (hB64 : B.length < 64)
    (val : ∀ i v, P i v → ∃ x t, xs[i]? = some x ∧ v = .str x t) :
    ∀ (k i n : Nat) (s : Shared), m - i = k → i ≤ m → St i s → SR w s.heap S (xs.take i) n →
      (∀ s' n', Moved (S :: wr) G s s' → SR w s'.heap S xs n' → R (.ok (.ret .none)) s') →
      codeAny (model prog w) A (.builtin "set.update.loop" ⟨[.ref S, .ref I], []⟩) R s := by
  have nSw : S ∉ wr := fun h => nS (W.sub _ h)
  have sub : ∀ b ∈ wr, b ∈ S :: wr := fun b hb => List.mem_cons_of_mem _ hb
  intro k
  induction k with
  | zero =>
    intro i n s hk hi st hS hR
    obtain rfl : i = m := by omega
    refine codeAny_builtin PyProof.Rows.F.entry_set_update_loop ?_
    rw [Around.under_plainId PyProof.Rows.F.plain_set_update_loop _]
    show wpAny _ A.in1 (pyNext (.ref I) >>= _) _ _ s
    refine wpAny_bind (W.done s _ _ st fun s' hm => ?_)
    show wpAny _ A.in1 (ret Value.none) _ _ s'
    refine wpAny_pure (hR s' n (hm.mono sub) ?_)
    rw [← sz, List.take_length] at hS
    exact hS.at fun o ho => hm.heap S _ nSw ho
  | succ k ih =>
    intro i n s hk hi st hS hR
    have lt : i < m := by omega
    refine codeAny_builtin PyProof.Rows.F.entry_set_update_loop ?_
    rw [Around.under_plainId PyProof.Rows.F.plain_set_update_loop _]
    show wpAny _ A.in1 (pyNext (.ref I) >>= _) _ _ s
    refine wpAny_bind (W.item i s _ _ lt st fun v s' hP st' hm => ?_)
    obtain ⟨x, t, hx, rfl⟩ := val i v hP
    have hS' : SR w s'.heap S (xs.take i) n := hS.at fun o ho => hm.heap S _ nSw ho
    show wpAny _ A.in1 (holding [Value.str x t] (setAdd S (.str x t)) >>= _) _ _ s'
    refine wpAny_bind (wpAny_holding ?_)
    unfold setAdd
    refine wpAny_holding ?_
    refine wpAny_bind ((PySem.strKind prog w).pyHash (k := x) (strKind_is _ _ _ _) ?_)
    have room : n + 1 < scanBound := by
      have := sr_room hS' (B := B) fun y hy => hB y (List.mem_of_mem_take hy)
      unfold scanBound; omega
    refine sr_add (s := { s' with toks := s'.toks + 1 }) hS' room fun b n2 h' sb r => ?_
    have tk : xs.take (i + 1) = xs.take i ++ [x] := by rw [List.take_add_one, hx]; rfl
    rw [← tk] at r
    refine wpAny_pure ⟨plainId_quiet PyProof.Rows.F.plain_set_update_loop _, ih (i + 1) n2 _ (by omega) lt (W.frame _ s' _ _ st' (Nat.le_succ _) fun b hb o e => ?_) r fun s'' n3 hm'' hS'' => ?_⟩
    · rw [sb.2 b (fun z : b = S => nS (by rw [← z]; exact hb))]; exact e
    · refine hR s'' n3 (Moved.trans W.gtrans ((hm.mono sub).then_heap (Nat.le_succ _) fun b o hb e => ?_) hm'') hS''
      rw [sb.2 b (fun z : b = S => hb (by rw [z]; exact List.mem_cons_self))]; exact e
end
end Kk

set_option maxHeartbeats 4000000
namespace Kk
open PySem PySem.Spec PyProof.Rows L2
abbrev newSet (w : World) : Obj := { cls := .type "set", dict := none, data := .set #[] 0 (.fresh 0 0 (!w.params.followText "set-order")) }
theorem sr_fresh {h : Heap} (w : World) : SR w (h.push { cls := .type "set", dict := none, data := .set #[] 0 (.fresh 0 0 (!w.params.followText "set-order")) }) h.objs.size [] 0 :=
  ⟨_, #[], 0, _, Heap.get?_push_size _ rfl, ⟨rfl, rfl, rfl⟩, rfl, (fun e he => by simp at he), (by simp), (fun k => by simp), (by decide), (by rfl), rfl, List.Pairwise.nil, by
    show _ ∨ (!w.params.followText "set-order") = true
    cases w.params.followText "set-order"
    · exact .inr rfl
    · exact .inl rfl⟩
section
variable {P : Program} {w : World} {A : Around} {E : Value → Shared → Prop} {s : Shared} {a : Addr} {L : List Str} {n : Nat}
/-- set(xs), xs a list of texts -/
theorem set_of_strs {l : Addr} {items : Array Value} {xs B : List Str} {Q : Value → Shared → Prop} (hh : A.handled = none) (hl : s.heap.IsList l items) (sz0 : xs.length = items.size)
    (val : ∀ (i : Nat) (v : Value), items[i]? = some v → ∃ x t, xs[i]? = some x ∧ v = .str x t) (hB : ∀ x ∈ xs, x ∈ B) (hB64 : B.length < 64)
    (fin : ∀ (h' : Heap) (tk n : Nat), SR w h' s.heap.objs.size xs n → (∀ b o, s.heap.get? b = some o → h'.get? b = some o) → Q (.ref s.heap.objs.size) { s with heap := h', toks := tk }) :
    wpAny (model P w) A (call (.type "set") [.ref l]) Q E s := by
  obtain ⟨c, tl, mro⟩ := PySem.F.called_set.mro
  have made := PySem.F.called_set.made
  have issub := PySem.F.called_set.sub
  refine wpAny_call (codeAny_of_tree ?_)
  show wpAny _ _ (callAny (.type "set") _) _ _ _
  refine wpAny_pure ⟨Code.quiet_builtin _ (by decide +kernel), codeAny_builtin PySem.F.entry_type_call ?_⟩
  rw [Around.under_plain (weight_type_call_type "set" [.ref l] []) rfl]
  have q1 := PySem.F.called_set.notType
  have q2 := PySem.F.called_set.canCreate
  have q3 := PySem.F.typeCall_set_1 (.ref l)
  repeat (any_goals (first | assumption | wp_step))
  refine codeAny_mono (code_set_led1 (.ref l) (E := E) (Q₁ := fun v z => v = .ref s.heap.objs.size ∧ z = { s with heap := s.heap.push { cls := .type "set", dict := none, data := .set #[] 0 (.fresh 0 0 (!w.params.followText "set-order")) } }) ⟨rfl, rfl⟩) fun r z hr => ?_
  cases r with
  | error e => exact hr
  | ok fl =>
    cases fl with
    | ret v =>
      obtain ⟨rfl, rfl⟩ := hr
      have atS : (s.heap.push (newSet w)).get? s.heap.objs.size = some (newSet w) := Heap.get?_push_size _ rfl
      have isS : Shared.TypeIs { s with heap := s.heap.push (newSet w) } (.ref s.heap.objs.size) "set" := ⟨_, atS, rfl⟩
      have ini := PySem.F.called_set.init.lookup
      have bnd := PySem.F.called_set.init.bind (.ref s.heap.objs.size)
      repeat (any_goals (first | assumption | wp_step))
      refine codeAny_mono (codeAny_call_builtin (R := wants (fun r z2 => r = .none ∧ ∃ h' tk n, z2 = { s with heap := h', toks := tk } ∧ SR w h' s.heap.objs.size xs n ∧ (∀ b o, s.heap.get? b = some o → h'.get? b = some o)) E)
        PySem.F.called_set.init.plain PySem.F.entry_set_init (check_set_init_1 isS ?_)) fun r2 z2 hr2 => ?_
      · obtain ⟨ol, hol, cl, nl, dl⟩ := hl
        obtain ⟨oc, od, odt, osl⟩ := ol
        simp only at cl dl
        subst cl; subst dl
        have hol2 : (s.heap.push (newSet w)).get? l = some { cls := .type "list", dict := od, data := .seq items nl, slots := osl } := Heap.get?_push_of_some _ hol
        have s1 := PySem.F.sub_list_set
        have s2 := PySem.F.sub_list_frozenset
        have s3 : (Value.type "list" == Value.type "dict") = false := by decide
        have isL : (s.heap.push (newSet w)).IsList l items := ⟨_, hol2, rfl, nl, rfl⟩
        unfold Builtin.«set.__init__» noKeywords Builtin.Frozenset.updateFrom
        generalize hold : pyIter = PI
        wp_walk
        subst hold
        refine wpAny_pyIter_list isL ?_
        refine wpAny_bind (wpAny_runValue ?_)
        have lt1 : l < s.heap.objs.size := Heap.lt_size hol
        have hh3 : A.in1.in1.in1.handled = none := by simp [hh]
        have neI : l ≠ (s.heap.push (newSet w)).objs.size := by rw [Heap.size_push]; exact Nat.ne_of_lt (Nat.lt_succ_of_lt lt1)
        have nS : s.heap.objs.size ∉ [(s.heap.push (newSet w)).objs.size, l] := by
          rw [Heap.size_push]; simp only [List.mem_cons, List.mem_singleton, List.not_mem_nil, or_false, not_or]
          exact ⟨Nat.ne_of_lt (Nat.lt_succ_self _), Nat.ne_of_gt lt1⟩
        refine sr_loop ((Walks.list hh3 _ l neI items).toS) s.heap.objs.size nS xs sz0 hB hB64 val (items.size - 0) 0 0 _ (by omega) (Nat.zero_le _)
          ⟨⟨_, Heap.get?_push_size _ rfl, rfl, rfl⟩, (isL.push _)⟩ ?z0 ?zR
        case z0 =>
          have f := sr_fresh (h := s.heap) w
          exact f.at fun o ho => Heap.get?_push_of_some _ ho
        case zR =>
          intro z' n' mv hS'
          obtain ⟨h', g', d', tk', os'⟩ := z'
          have eg : g' = s.gens := mv.gens
          have ed : d' = s.drawn := mv.drawn
          have eo' : os' = s.os := mv.os
          subst eg; subst ed; subst eo'
          show wpAny _ _ _ _ _ _
          refine wpAny_pure ?_
          show wpAny _ _ (ret Value.none) _ _ _
          refine wpAny_pure ⟨rfl, h', tk', n', rfl, hS', fun b o e => ?_⟩
          have lb := Heap.lt_size e
          have n1 : b ≠ s.heap.objs.size := Nat.ne_of_lt lb
          have n2 : b ≠ (s.heap.push (newSet w)).objs.size := by rw [Heap.size_push]; exact Nat.ne_of_lt (Nat.lt_succ_of_lt lb)
          exact mv.heap b o (by simp only [List.mem_cons, List.mem_singleton, List.not_mem_nil, or_false, not_or]; exact ⟨n1, n2⟩) (Heap.get?_push_of_some _ (Heap.get?_push_of_some _ e))
      · cases r2 with
        | error e => exact hr2
        | ok fl2 =>
          cases fl2 with
          | ret r =>
            obtain ⟨rfl, h', tk, n', rfl, hS', kp⟩ := hr2
            repeat (any_goals (first | assumption | wp_step))
            exact fin _ _ _ hS' kp
          | _ => exact hr2.elim
    | _ => exact hr.elim
theorem strs_of_vals : ∀ (l : List Value), (∀ v ∈ l, ∃ x tk, v = Value.str x tk) → StrsAre l (l.map fun v => kS (0, v))
  | [], _ => .nil
  | v :: l, h => by
    obtain ⟨x, tk, rfl⟩ := h v List.mem_cons_self
    exact .cons x tk (strs_of_vals l fun u hu => h u (List.mem_cons_of_mem _ hu))
/-- sorted(set), a set of texts -/
theorem sorted_of_set {B : List Str} {Q : Value → Shared → Prop} (R : SR w s.heap a L n) (hh : A.handled = none) (hB : ∀ x ∈ L, x ∈ B) (hB64 : B.length < 64)
    (fin : ∀ s' p (out : Array Value) (c : Nat) (ys : List Str), (∀ b o, s.heap.get? b = some o → s'.heap.get? b = some o) → s'.gens = s.gens → s'.os = s.os → s.heap.objs.size ≤ p →
      s'.heap.get? p = some (seqObj "list" out c) → StrsAre out.toList ys → sortedS ys = true → ys.Nodup → (∀ k, k ∈ ys ↔ k ∈ L) → ys.length < 64 → Q (.ref p) s') :
    wpAny (model P w) A (call (.builtin "sorted") [.ref a]) Q E s := by
  have n64 : n < 64 := Nat.lt_of_le_of_lt (sr_room R hB) hB64
  obtain ⟨o, es, ep, t, ho, hex, hd, g, nd, hm, hb, hf, hn, hr, hl⟩ := R
  refine Calls.call_function_entry kind_sorted plain_sorted entry_sorted (args_sorted1 _) ?_
  unfold Builtin.«sorted»
  refine wpAny_bind (m := checkCount "sorted" 1 1 _) (wpAny_pure ?_)
  refine wpAny_bind (collect_set (A := A.in1) hh ⟨o, ho, hex.1, hd⟩ hf hb hr hl fun z vs k1 hz g1 o1 pm => ?_)
  have vl : vs.length = n := by rw [pm.length_eq, List.length_map, Array.length_toList]; exact hn
  have SA : StrsAre vs (vs.map fun v => kS (0, v)) := strs_of_vals vs fun v hv => by
    obtain ⟨e, he, q⟩ := List.mem_map.mp (pm.mem_iff.mp hv)
    obtain ⟨x, tk, h1, _⟩ := g e he
    exact ⟨x, tk, by rw [← q]; exact h1⟩
  have pk : (vs.map fun v => kS (0, v)).Perm (es.toList.map kS) := by
    have q := pm.map fun v => kS (0, v)
    rw [List.map_map] at q
    exact q
  refine wpAny_bind (wpAny_newList ?_ (by rw [vl, sizeLine_eq]; omega))
  have oL : (z.heap.push (seqObj "list" vs.toArray 0)).get? z.heap.objs.size = some (seqObj "list" vs.toArray 0) := Heap.get?_push_size _ rfl
  refine wpAny_bind (wpAny_holding (wpAny_call_entry slot_list_sort ⟨_, oL, rfl⟩ entry_list_sort
    (list_sort_treeK strKind_oneLt oL SA.keysOf (fun v₁ v₂ rest e => keyKind_strs (by rw [← e]; exact SA)) (by rw [vl]; exact n64) fun st' hp hs => ⟨_, rfl, ?_⟩) (args_list_sort _)))
  obtain ⟨ys, a1, a2, a3⟩ := sorted_out_str SA hp hs
  obtain ⟨c, hc⟩ := sortedHeap_at (vs := vs) (out := (arrOf st').map (·.2)) oL
  have pn : ys.Perm (es.toList.map kS) := a2.trans pk
  refine wpAny_pure ⟨_, rfl, fin _ z.heap.objs.size _ c ys (fun b u e => ?_) g1 o1 hz hc a1 a3 (pn.nodup_iff.mpr nd) (fun k => by rw [pn.mem_iff, ← hm k]) ?_⟩
  · have q := k1 b u e
    have lt := Heap.lt_size q
    show (sortedHeap (z.heap.push (seqObj "list" vs.toArray 0)) z.heap.objs.size vs _).get? b = some u
    rw [sortedHeap_old (Nat.ne_of_lt lt) (by rw [size_push']; exact Nat.lt_succ_of_lt lt)]
    exact Heap.get?_push_of_some _ q
  · rw [pn.length_eq, List.length_map, Array.length_toList, hn]; exact n64
end
/-- a set of texts, tracked -/
def SetS (w : World) (a : Addr) (L : List Str) : HO := .ext fun h => ∃ n, SR w h a L n
section
variable {X : Cx}
theorem setS_ok {P : Program} {w : World} {H : Hp} {h : Heap} {a : Addr} {L : List Str} {n : Nat} (R : SR w h a L n) : ObjOk P w H h a (SetS w a L) := by
  refine ⟨⟨n, R⟩, ?_, fun h1 h2 ⟨m, R1⟩ k => ⟨m, R1.at k⟩⟩
  obtain ⟨o, es, ep, t, ho, _⟩ := R
  exact ⟨o, ho⟩
def rSetS (K : PySem.W.Frag) (w : World) : List V → Hp → VK → Prop := fun vs H Q => ∃ (l : Addr) (xs B : List Str), vs = [.ref l] ∧ SqL K H l (xs.map V.str) ∧ (∀ x ∈ xs, x ∈ B) ∧ B.length < 64 ∧ ∀ p, H p = none → Q (.ref p) (upd H p (SetS w p xs))
theorem call_setS (hc : X.calm = true) : CallR X (.type "set") (rSetS X.K X.w) := by
  intro pins s σ H vs us Q I r h
  obtain ⟨l, xs, B, rfl, hl, hB, hB64, q⟩ := h
  rw [Vals.ref1 r]
  obtain ⟨its, rv, pl, hz⟩ := I.list hl
  have fr : H s.heap.objs.size = none := I.hok.fresh (Nat.le_refl _)
  have hlen : xs.length = its.toArray.size := by
    have := rv.length
    rw [List.length_map] at this
    simpa using this
  refine set_of_strs (P := X.prog) (w := X.w) (I.ok.hd hc) pl.isList hlen (fun i v hv => ?_) hB hB64 fun h' tk n R kp => ?_
  · have hv2 : its[i]? = some v := by simpa using hv
    have hi : i < xs.length := by rw [hlen]; simpa using (List.getElem?_eq_some_iff.mp hv2).1
    have hx : (xs.map V.str)[i]? = some (.str xs[i]) := by rw [List.getElem?_map, List.getElem?_eq_getElem hi]; rfl
    obtain ⟨u, hu, ru⟩ := rv.get hx
    rw [hv2] at hu; cases hu
    obtain ⟨t, e⟩ := (show ∃ t, v = Value.str xs[i] t from ru)
    exact ⟨xs[i], t, List.getElem?_eq_getElem hi, e⟩
  · exact ⟨.ref s.heap.objs.size, upd H s.heap.objs.size (SetS X.w s.heap.objs.size xs), I.laid (t' := tk) kp (Nat.le_refl _) (setS_ok R), rfl, q _ fr⟩
def rSortSetS (w : World) : List V → Hp → VK → Prop := fun vs H Q => ∃ (a : Addr) (L B : List Str), vs = [.ref a] ∧ H a = some (SetS w a L) ∧ (∀ x ∈ L, x ∈ B) ∧ B.length < 64 ∧
  ∀ (ys : List Str) (p : Addr), sortedS ys = true → ys.Nodup → (∀ k, k ∈ ys ↔ k ∈ L) → H p = none → Q (.ref p) (upd H p (.lst (ys.map V.str)))
theorem call_sortSetS (hc : X.calm = true) : CallR X (.builtin "sorted") (rSortSetS X.w) := by
  intro pins s σ H vs us Q I r h
  obtain ⟨a, L, B, rfl, ha, hB, hB64, q⟩ := h
  obtain ⟨n, R⟩ := (I.hok a _ ha).1
  rw [Vals.ref1 r]
  refine sorted_of_set (P := X.prog) R (I.ok.hd hc) hB hB64 fun s' p out c ys k g o hp hg hS h1 h2 h3 h4 => ?_
  have hlen : (ys.map V.str).length ≤ sizeLine := by rw [List.length_map, sizeLine_eq]; omega
  have fr : H p = none := I.hok.fresh hp
  have J : Inv X pins σ (upd H p (.lst (ys.map V.str))) { s with heap := s'.heap, gens := s'.gens, drawn := s'.drawn, toks := s'.toks } :=
    I.call (ch := []) (Un.laid k hp fr) (I.hok.laid k hp ⟨hlen, out.toList, c, vals_of_strs hS, hg⟩) (by rw [g]; exact I.bare) (fun _ z => nomatch z)
  have e : s' = { s with heap := s'.heap, gens := s'.gens, drawn := s'.drawn, toks := s'.toks } := by
    cases s'; cases s; cases o; rfl
  rw [e]
  exact ⟨.ref p, _, J, rfl, q ys p h1 h2 h3 fr⟩
end
end Kk

set_option maxHeartbeats 4000000
namespace Kk
open PySem PySem.Spec PyProof.Rows L2
/-- the element of a generator over a list: at place i, where the item stands in the heap as it stood ahead -/
def EltL (X : Cx) (P : Addr) (H1 : Hp) (sc : Scope) (x : Str) (e : Expr) (ys : List V) (F : Nat → Value → Prop) : Prop :=
  ∀ (ge : Env) (B : Around) (Fx : Value → Shared → Prop) (i : Nat) (v : V) (u : Value) (z1 z : Shared) (m : Str → Option Value),
    ge.scope = sc → ge.globals = mainGlobals → ge.builtins = builtinsNs → Mod X.K X.mg X.base → HOk X.prog X.w H1 z1.heap → X.K.In z1.heap →
    (∀ b o, X.base.get? b = some o → z.heap.get? b = some o) → (∀ b o, b ≠ P → z1.heap.get? b = some o → z.heap.get? b = some o) → (∃ ps, H1 P = some (.tbl ps)) →
    z.heap.Ns ge.locals m → ys[i]? = some v → RelV v u → m x = some u →
    wpAny (model X.prog X.w) B (eval e ge) (fun y z' => F i y ∧ Keeps z z') Fx z
section
variable {X : Cx} {pins : List (Addr × Obj)} {σ : L2.St} {H : Hp} {s : Shared}
/-- the generator g, ready to be walked -/
def RdyL (X : Cx) (pins : List (Addr × Obj)) (σ : L2.St) (H1 : Hp) (P : Addr) (n : Nat) (F : Nat → Value → Prop) (g : Addr) (s5 : Shared) : Prop :=
  ∃ (fp wr : List Addr) (G : Array GenState → Array GenState → Prop) (F' : Nat → Value → Prop) (St : Nat → Shared → Prop),
    WalksS X.prog X.w X.A.in1 g fp wr G n F' St ∧ St 0 s5 ∧ (∀ b ∈ fp, b < s5.heap.objs.size) ∧ (∀ j v, F' j v → F j v) ∧ ∀ s', Moved wr G s5 s' → ∃ H2, GxR.Tabbed P H1 H2 ∧ Inv X pins σ H2 s'
theorem genL {c P : Addr} {e it : Expr} {x : Str} {px gp : Pos} {sc : Scope} {te : TE} {k : Nat} {G : Value → Shared → Prop} {R : List V → (Nat → Value → Prop) → Hp → Prop} {W0 : V → Hp → Prop}
    (room : Room k X.A) (tab : GxR.TabB X.base X.mg c P) (code : X.env.code = .ref c) (gs : GxR.GenS X.env sc x) (pit : PE X it te)
    (fold : ∀ v, genFold it X.env v = pure v) (I : Inv X pins σ H s) (want : te σ H W0) (what : ∀ v H1, W0 v H1 → ∃ (yl : Addr) (ys : List V) (F : Nat → Value → Prop), v = .ref yl ∧ SqL X.K H1 yl ys ∧ GxR.TabG H1 P ∧ EltL X P H1 sc x e ys F ∧ R ys F H1)
    (fin : ∀ ys F H1 g s5, R ys F H1 → RdyL X pins σ H1 P ys.length F g s5 → G (.ref g) s5) :
    wpAny (model X.prog X.w) X.A (eval (.GeneratorExp e [⟨.Name x px, it, [], 0⟩] sc gp) X.env) G X.xe s := by
  have deep : X.A.depth < recursionLimit := by have q := room.dp; omega
  refine wpAny_GeneratorExp_walksQ room.hd gs.co (closure_ok gs.free) gs.cell gs.dot gs.loc gs.kind deep ?_ fold
  refine thn (pit.run pins s σ H _ I want) fun xv z ⟨v, H1, J, rv, got⟩ => ?_
  obtain ⟨yl, ys, F, rfl, hyl, ⟨rows, isT, trip⟩, pel, rest⟩ := what v H1 got
  obtain rfl : xv = Value.ref yl := rv
  obtain ⟨its, rel, pl, _⟩ := J.list hyl
  have isL := pl.isList
  have hlen : its.length = ys.length := rel.length.symm
  refine wpAny_pyIter_list isL ?_
  generalize eio : ({ cls := .type "list_iterator", data := .fields #[.ref yl, .int 0 0] } : Obj) = io
  have isI : (z.heap.push io).IsListIter z.heap.objs.size yl 0 := by
    subst eio
    exact ⟨_, Heap.get?_push_size _ rfl, rfl, rfl⟩
  have ltL : yl < z.heap.objs.size := by
    obtain ⟨_, q, _⟩ := _root_.id isL
    exact Heap.lt_size q
  have atP : z.heap.get? P = some { cls := .none, data := .fields rows } := J.hok P _ isT
  have ltP : P < z.heap.objs.size := Heap.lt_size atP
  have atP2 : (z.heap.push io).get? P = some { cls := .none, data := .fields rows } := Heap.get?_push_of_some _ atP
  have chd : PySem.W.CodeHd (z.heap.push io) c P := tab.code.keeps fun b u q => Heap.get?_push_of_some _ (J.bk b u q)
  have nl : (z.heap.push io).NoLimit := J.nolimit.push io
  have go : ∀ (cv : Value) (h3 : Heap) (tk : Nat) (rows' : Array Value), Heap.ExtBut P (z.heap.push io) h3 → (z.heap.push io).objs.size ≤ h3.objs.size →
      h3.get? P = some { cls := .none, data := .fields rows' } → (∃ more, rows' = rows ++ more) → TriplesOk rows'.toList →
      wpAny (model X.prog X.w) X.A (builtinsFor X.env.globals X.env.builtins) (fun bi s4 =>
        ∃ Ia fp wr n0 Pf S0 pz Fz, Value.ref z.heap.objs.size = .ref Ia ∧ (∀ B : Around, B.handled = none → Walks X.prog X.w B Ia fp wr n0 Pf S0) ∧
          S0 0 s4.heap ∧ (∀ b ∈ fp, b < s4.heap.objs.size) ∧ s4.heap.NoLimit ∧ cStatics ∉ wr ∧
          (∀ hr : Heap, (∀ b o, s4.heap.get? b = some o → hr.get? b = some o) →
            QuietGen X.prog X.w (genEnv sc (cloFrom X.env.cells sc.names []) s4.heap.objs.size cv bi X.env) x [] e (List.range s4.heap.objs.size) wr Pf pz Fz hr) ∧
          (∀ g h5 tk gst, gst.bare = true → s4.heap.objs.size < g → h5.objs.size = g + 1 → (∀ b o, s4.heap.get? b = some o → h5.get? b = some o) →
            WalksS X.prog X.w X.A.in4 g (g :: s4.heap.objs.size :: List.range s4.heap.objs.size) (s4.heap.objs.size :: wr) (GenOnlyQ s4.gens.size) (passing pz n0 0).length
              (fun j y => ∃ i, (passing pz n0 0)[j]? = some i ∧ Fz i y) (GenAt X.prog X.w X.A.in4 g s4.gens.size s4.heap.objs.size (List.range s4.heap.objs.size) wr pz n0 Fz) →
            GenAt X.prog X.w X.A.in4 g s4.gens.size s4.heap.objs.size (List.range s4.heap.objs.size) wr pz n0 Fz 0 { s4 with gens := s4.gens.push gst, toks := tk, heap := h5 } →
            G (.ref g) { s4 with gens := s4.gens.push gst, toks := tk, heap := h5 })) X.xe { z with heap := h3, toks := tk } := by
    intro cv h3 tk rows' ext le3 at3 grown trip3
    obtain ⟨bm, ob, b1, b2, b3, b4, b5, b6, b7, b8⟩ := tab.bm
    have cP : cStatics ≠ P := fun q => by
      obtain ⟨_, ns, _⟩ := J.nolimit
      obtain ⟨o9, es, ep, g9, d9, _⟩ := ns
      rw [q, atP] at g9; cases g9; cases d9
    have cLt : cStatics < z.heap.objs.size := let ⟨_, ns, _⟩ := J.nolimit; ns.lt
    have szI : (z.heap.push io).objs.size = z.heap.objs.size + 1 := Heap.size_push ..
    have kp3 : ∀ b u, b ≠ P → z.heap.get? b = some u → h3.get? b = some u := fun b u nb q => ext b u nb (Heap.get?_push_of_some _ q)
    have kpB : ∀ b u, X.base.get? b = some u → h3.get? b = some u ∧ b < z.heap.objs.size := fun b u q => by
      obtain ⟨q1, q2⟩ := J.bs b u q
      exact ⟨kp3 b u (fun zz => by rw [zz, isT] at q2; cases q2) q1, Heap.lt_size q1⟩
    have neP : yl ≠ P := fun zz => by
      obtain ⟨_, q, c1, _, d1⟩ := _root_.id isL
      rw [zz, atP] at q; cases q; cases d1
    have isL3 : h3.IsList yl its.toArray := by
      obtain ⟨ob2, q, r⟩ := _root_.id isL
      exact ⟨ob2, kp3 _ _ neP q, r⟩
    have isI3 : h3.IsListIter z.heap.objs.size yl 0 := isI.at fun u q => ext _ u (Nat.ne_of_gt ltP) q
    refine wpAny_builtinsFor (m := X.mg) (by rw [J.ok.glob]; exact ((J.mod.glob.keeps J.bk).push io).extBut ext tab.gP) b1 b2 (kp3 _ _ b4 (J.bk _ _ b5)) b6 b7 b8 ?_
    refine ⟨z.heap.objs.size, [z.heap.objs.size, yl], [z.heap.objs.size], its.toArray.size, (fun i v => its.toArray[i]? = some v), (fun i h => h.IsListIter z.heap.objs.size yl i ∧ h.IsList yl its.toArray), (fun _ => true), F, rfl,
      (fun B hB => Walks.list hB _ _ (Nat.ne_of_lt ltL) _), ⟨isI3, isL3⟩, ?_, nl.extBut ext cP, ?_, ?_, ?_⟩
    · intro b hb
      rcases List.mem_cons.mp hb with q | q
      · rw [q]; show z.heap.objs.size < h3.objs.size; omega
      · rcases List.mem_cons.mp q with q | q
        · rw [q]
          have q9 : z.heap.objs.size ≤ h3.objs.size := by omega
          exact Nat.lt_of_lt_of_le ltL q9
        · cases q
    · intro q
      rcases List.mem_cons.mp q with q | q
      · exact Nat.ne_of_lt cLt q
      · cases q
    · intro hr hhr
      refine ⟨fun B E' i v s2 m2 hB hPv hn hm hk => ?_, fun B E' i v s2 m2 hB hPv hp hn hm hk => ?_⟩
      · simp only [List.forIn_nil]
        exact wpAny_pure ⟨rfl, GxR.keeps_refl _⟩
      · have hv2 : its[i]? = some v := by simpa using hPv
        have hi2 : i < ys.length := by rw [← hlen]; exact (List.getElem?_eq_some_iff.mp hv2).1
        obtain ⟨u2, hu2, ru2⟩ := rel.get (List.getElem?_eq_getElem hi2)
        rw [hv2] at hu2
        cases hu2
        have kept : ∀ b o, b < z.heap.objs.size → h3.get? b = some o → s2.heap.get? b = some o := fun b o lb q =>
          hk b (List.mem_range.mpr (Heap.lt_size q)) (fun zz => by
            rcases List.mem_cons.mp zz with zz | zz
            · exact Nat.ne_of_lt lb zz
            · cases zz) o (hhr b o q)
        exact pel _ B E' i _ v z s2 m2 rfl J.ok.glob rfl J.ok.mod J.hok J.kIn (fun b o q => kept b o (kpB b o q).2 (kpB b o q).1)
          (fun b o nb q => kept b o (Heap.lt_size q) (kp3 b o nb q)) ⟨rows, isT⟩ hn (List.getElem?_eq_getElem hi2) ru2 hm
    · intro g h5 tk5 gst bare gt sz5 kp5 W5 at0
      simp only [GxR.passing_true, List.length_range] at W5
      have n5 : its.toArray.size = ys.length := by rw [List.size_toArray, hlen]
      rw [n5] at W5 at0
      refine fin ys F H1 g _ rest ⟨_, _, _, _, _, W5.in4_1, at0, ?_, ?_, fun s9 mv => ?_⟩
      · intro b hb
        show b < h5.objs.size
        have q5 : h5.objs.size = g + 1 := sz5
        have q8 : h3.objs.size < g := gt
        rw [q5]
        rcases List.mem_cons.mp hb with q | q
        · rw [q]; exact Nat.lt_succ_self g
        · rcases List.mem_cons.mp q with q | q
          · rw [q]; show h3.objs.size < g + 1; omega
          · have q' : b < h3.objs.size := List.mem_range.mp q
            exact Nat.lt_of_lt_of_le q' (by omega)
      · intro j y hy
        obtain ⟨i, hij, hFy⟩ := hy
        obtain ⟨hj, ej⟩ := List.getElem?_eq_some_iff.mp hij
        rw [List.getElem_range] at ej
        subst ej
        exact hFy
      · obtain ⟨more, em⟩ := grown
        have nw : ∀ b u, z.heap.get? b = some u → b ∉ h3.objs.size :: [z.heap.objs.size] := fun b u q hb => by
          have lb := Heap.lt_size q
          rcases List.mem_cons.mp hb with q | q
          · rw [q] at lb
            have q9 : (h3.objs.size : Nat) < z.heap.objs.size := lb
            omega
          · rcases List.mem_cons.mp q with q | q
            · rw [q] at lb; exact Nat.lt_irrefl _ lb
            · cases q
        have J2 := GxR.inv_tab (more := more) (h' := s9.heap) (g' := s9.gens) (d' := s9.drawn) (t' := s9.toks) J isT (fun b u nb q => mv.heap b u (nw b u q) (kp5 b u (kp3 b u nb q)))
          (by rw [← em]; exact mv.heap P _ (nw P _ atP) (kp5 P _ at3)) (AllBare.movedS (J.bare.push bare) mv)
        rw [GxR.sh_eta z s9 mv.os] at J2
        exact ⟨upd H1 P (.tbl (rows ++ more)), ⟨⟨rows ++ more, upd_same, by rw [← em]; exact trip3⟩, fun b nb => upd_ne nb⟩, J2⟩
  refine ⟨nl, ?_⟩
  cases am : codeAmong gp rows.toList with
  | none =>
    refine wpAny_genexprCodeX code (chd.code atP2 trip) (chd.tab atP2) am fun c' h' tk hx hge hlt hco _ htab _ => ?_
    obtain ⟨o1, vs, f1, tf, fl, tg, inF, tx, tt, op, _, _, _, _, _, _, _, _, _, htr, _⟩ := hco
    exact go _ h' tk _ hx (Nat.le_trans hge (Nat.le_of_lt hlt)) htab.2 ⟨_, rfl⟩ htr
  | some cv =>
    refine wpAny_genexprCode_hit code (chd.code atP2 trip) am ?_
    exact go cv (z.heap.push io) z.toks rows (Heap.ExtBut.refl _ _) (Nat.le_refl _) atP2 ⟨#[], by simp⟩ trip
/-- sum(e for x in a list) -/
def tSumL (X : Cx) (P : Addr) (sc : Scope) (x : Str) (e : Expr) (te : TE) : TE := fun σ H Q => te σ H fun v H1 => ∃ (yl : Addr) (ys : List V) (val : Nat → Int), v = .ref yl ∧ SqL X.K H1 yl ys ∧ GxR.TabG H1 P ∧
  EltL X P H1 sc x e ys (fun i y => ∃ t, y = .int (val i) t) ∧ ∀ H2, GxR.Tabbed P H1 H2 → Q (.int (preSum val ys.length)) H2
theorem pe_sumL {c P : Addr} {e it : Expr} {x : Str} {px p pos gp : Pos} {sc : Scope} {te : TE} {k : Nat}
    (room : Room k X.A) (hg : Gl X "sum") (hm : X.mg "sum" = none) (tab : GxR.TabB X.base X.mg c P) (code : X.env.code = .ref c) (gs : GxR.GenS X.env sc x) (pit : PE X it te)
    (fold : ∀ v, genFold it X.env v = pure v)
    (he : starEach [.GeneratorExp e [⟨.Name x px, it, [], 0⟩] sc gp] X.env = (false, eval (.GeneratorExp e [⟨.Name x px, it, [], 0⟩] sc gp) X.env) :: starEach [] X.env := by rfl) :
    PE X (.Call (.Name "sum" p) [.GeneratorExp e [⟨.Name x px, it, [], 0⟩] sc gp] [] pos) (tSumL X P sc x e te) := by
  refine ⟨fun pins s σ H Q I want => ?_⟩
  have hb : bootBuiltins "sum" = some (.builtin "sum") := by decide +kernel
  refine wpAny_Call_Name_kw (ld_blt I hg hm hb ?_)
  refine PyProof.Rows.callWith_builtin1 ?_ he (by rfl)
  rw [he]
  show wpAny _ _ (spliced ((false, eval (.GeneratorExp e [⟨.Name x px, it, [], 0⟩] sc gp) X.env) :: backTo pos (starEach [] X.env))) _ _ s
  refine Calls.spliced_cons (genL (R := fun ys F H1 => ∃ val : Nat → Int, F = (fun i y => ∃ t, y = .int (val i) t) ∧ ∀ H2, GxR.Tabbed P H1 H2 → Q (.int (preSum val ys.length)) H2) room tab code gs pit fold I want (fun v H1 hv => ?_) fun ys F H1 g s5 hR rd => ?_)
  · obtain ⟨yl, ys, val, e1, e2, e3, e4, e5⟩ := hv
    exact ⟨yl, ys, _, e1, e2, e3, e4, val, rfl, e5⟩
  · obtain ⟨val, eF, hR⟩ := hR
    obtain ⟨fp, wr, G, F', St, W, hst, hfp, hF, hI⟩ := rd
    refine Calls.spliced_nil ?_
    refine call_sum_walkAnyS (W.self 0 _ _ _ hst ⟨g, fp, wr, G, _, F', St, val, rfl, W, hst, hfp, fun i v hv => ?_, fun s' t' mv => ?_⟩)
    · have := hF i v hv
      rw [eF] at this; exact this
    · obtain ⟨H2, hT, J⟩ := hI s' mv
      exact ⟨.int _, H2, J, ⟨_, rfl⟩, hR H2 hT⟩
/-- len(x), x a tuple -/
theorem elt_len {P : Addr} {H1 : Hp} {sc : Scope} {x : Str} {ys : List V} {val : Nat → Int} {p1 p2 p3 : Pos} (hk : sc.kind = .function) (hl : sc.names.lookup x = some .local) (hy : sc.names.lookup ("len" : Str) = some .globalImplicit) (ml : X.mg "len" = none)
    (items : ∀ i v, ys[i]? = some v → ∃ a ts, v = .ref a ∧ SqT X.K H1 a ts ∧ val i = ts.length) (hd : (x == ("__debug__" : Str)) = false := by decide) :
    EltL X P H1 sc x (.Call (.Name "len" p1) [.Name x p2] [] p3) ys (fun i y => ∃ t, y = .int (val i) t) := by
  intro ge B Fx i v u z1 z m hs hgl hbl mod hok kin kb k1 hP hn hi rv hx
  obtain ⟨a, ts, rfl, hT, ev⟩ := items i v hi
  obtain rfl : u = Value.ref a := rv
  have hk' : ge.scope.kind = .function := by rw [hs]; exact hk
  have isT : ∃ its : List Value, ts.length = its.length ∧ its.length ≤ sizeLine ∧ IsTup z.heap a its.toArray := by
    rcases hT with hT | ⟨o, its, n, e1, e2, e3, e4, e5⟩
    · obtain ⟨q1, its, q2, ob, q3, q4⟩ := hT.ok hok
      refine ⟨its, q2.length, by rw [← q2.length]; exact q1, ob, k1 a ob (fun zz => ?_) q3, q4⟩
      obtain ⟨ps, hP⟩ := hP
      rcases hT with hT | ⟨o, hT⟩
      · rw [zz, hP] at hT; cases hT
      · rw [zz, hP] at hT; cases hT
    · exact ⟨its.toList, e5.length, by simpa using e4, o, kb a o (mod.kin a o e1), e2, n, by simpa using e3⟩
  obtain ⟨its, l1, l2, hI⟩ := isT
  refine wpAny_Call_Name_kw ?_
  obtain ⟨mb, h1, h2⟩ := mod.blt
  refine Calls.Name_function_global hk' (by show ge.scope.names.lookup _ = _; rw [hs]; exact hy) (Calls.loadGlobal_builtin (by rw [hgl]; exact mod.glob.keeps kb) ml (by rw [hbl]; exact h1.keeps kb) ((h2 "len" (by decide)).trans PySem.boot_len) ?_) (by decide)
  refine PyProof.Rows.callWith_builtin1 ?_ rfl (by rfl)
  show wpAny _ _ (spliced ((false, eval (.Name x p2) ge) :: backTo p3 (starEach [] ge))) _ _ z
  refine Calls.spliced_cons (wpAny_Name (wpAny_loadName_local hk' (show ge.scope.names.lookup x = some .local by rw [hs]; exact hl) hn hx ?_) hd)
  refine Calls.spliced_nil ?_
  refine PyProof.Rows.len_tuple hI ?_ ⟨⟨z.toks + 1, ?_⟩, GxR.keeps_tok z _⟩
  · rw [sizeLine_eq] at l2
    simp only [List.size_toArray]; omega
  · rw [ev, l1]; simp
end
end Kk

set_option maxHeartbeats 4000000
namespace Kk
open PySem PySem.Spec PyProof.Rows L2
abbrev ifsOk (fs : List Expr) (env : Env) : Sem Bool := forIn fs true fun c r => if r = true then (isTrue c env (eval c env) >>= fun ok => pure (ForInStep.yield ok)) else pure (ForInStep.yield r)
abbrev tailO (e : Expr) (k : Nat) (i1 : Expr) (it acc : Value) (env : Env) : Sem Fin := do
  let x ← eval i1 env
  standAt i1.pos
  let x ← foldedSetIterable i1 env x
  let j ← holding [x] (pyIter x)
  let _ ← runOwn (.compStart e (k + 1) j acc env) env
  again (.compLoop e k it acc env)
abbrev tailI (e : Expr) (k : Nat) (elt : Expr) (it acc : Value) (env : Env) : Sem Fin := do
  (do
    let v ← eval elt env
    let _ ← call (.builtin "list.append") [acc, v])
  again (.compLoop e k it acc env)
abbrev turnOf (e : Expr) (k : Nat) (p : Pos) (tg : Expr) (fs : List Expr) (tail : Sem Fin) (it acc : Value) (env : Env) : Sem Fin := do
  standAt p
  match ← pyNext it with
  | none => pure (.done .next)
  | some v => do
    letOwnedTupleGo tg it v
    assign tg env v
    let ok ← ifsOk fs env
    if ok = true then tail else again (.compLoop e k it acc env)
abbrev e3 (elt t0 i0 : Expr) (f0 : List Expr) (t1 i1 : Expr) (f1 : List Expr) (t2 i2 : Expr) (f2 : List Expr) (sc : Scope) (pos : Pos) : Expr := .ListComp elt [⟨t0, i0, f0, 0⟩, ⟨t1, i1, f1, 0⟩, ⟨t2, i2, f2, 0⟩] sc pos
section
variable {elt t0 i0 t1 i1 t2 i2 : Expr} {f0 f1 f2 : List Expr} {sc : Scope} {pos : Pos} {it acc : Value} {env : Env}
theorem turn3_0 : compTurn (e3 elt t0 i0 f0 t1 i1 f1 t2 i2 f2 sc pos) 0 it acc env = turnOf (e3 elt t0 i0 f0 t1 i1 f1 t2 i2 f2 sc pos) 0 i0.pos t0 f0 (tailO (e3 elt t0 i0 f0 t1 i1 f1 t2 i2 f2 sc pos) 0 i1 it acc env) it acc env := by rfl
theorem turn3_1 : compTurn (e3 elt t0 i0 f0 t1 i1 f1 t2 i2 f2 sc pos) 1 it acc env = turnOf (e3 elt t0 i0 f0 t1 i1 f1 t2 i2 f2 sc pos) 1 i1.pos t1 f1 (tailO (e3 elt t0 i0 f0 t1 i1 f1 t2 i2 f2 sc pos) 1 i2 it acc env) it acc env := by rfl
theorem turn3_2 : compTurn (e3 elt t0 i0 f0 t1 i1 f1 t2 i2 f2 sc pos) 2 it acc env = turnOf (e3 elt t0 i0 f0 t1 i1 f1 t2 i2 f2 sc pos) 2 i2.pos t2 f2 (tailI (e3 elt t0 i0 f0 t1 i1 f1 t2 i2 f2 sc pos) 2 elt it acc env) it acc env := by rfl
end
section
variable {prog : Program} {w : World} {A : Around} {R : Result → Shared → Prop} {s : Shared}
abbrev nb (prog : Program) (w : World) (A : Around) (env : Env) (R : Result → Shared → Prop) : Value → Shared → Prop := notedBy (model prog w) A env fun e s' => R (.error e) s'
/-- where a turn leads -/
abbrev to_ (R : Result → Shared → Prop) (c : Code) (G : Shared → Prop) : Fin → Shared → Prop := fun fin s' => match fin with | .done f => R (.ok f) s' | .again c' => c' = c ∧ G s'
theorem clause_loop {e tg : Expr} {k : Nat} {it acc : Value} {env : Env} {p : Pos} {fs : List Expr} {tail : Sem Fin} (hq : Code.quiet (.compLoop e k it acc env) = true)
    (hu : A.under (.compLoop e k it acc env) = A)
    (hm : (model prog w).den (.compLoop e k it acc env) = (compTurn e k it acc env).onRaise (fun x => do noteFrame x env; theTreesLotGoes x))
    (ht : compTurn e k it acc env = turnOf e k p tg fs tail it acc env) (I : Nat → Shared → Prop)
    (turn : ∀ n s, I n s → wpAny (model prog w) A (pyNext it) (fun r s1 => match r with
      | none => R (.ok .next) s1
      | some v => wpAny (model prog w) A (letOwnedTupleGo tg it v) (fun _ s2 => wpAny (model prog w) A (assign tg env v) (fun _ s3 => wpAny (model prog w) A (ifsOk fs env) (fun ok s4 =>
          if ok = true then wpAny (model prog w) A tail (to_ R (.compLoop e k it acc env) fun s' => ∃ m, m < n ∧ I m s') (nb prog w A env R) s4
          else ∃ m, m < n ∧ I m s4) (nb prog w A env R) s3) (nb prog w A env R) s2) (nb prog w A env R) s1) (nb prog w A env R) s)
    (n : Nat) (h : I n s) : codeAny (model prog w) A (.compLoop e k it acc env) R s := by
  refine codeAny_loop hq I (fun n s hI => ?_) n h
  rw [hu, hm]
  refine wpAny_noted ?_
  rw [ht]
  refine wpAny_bind (wpAny_standAt (wpAny_bind (wpAny_mono (turn n s hI) (fun r s1 h1 => ?_) fun _ _ h' => h')))
  cases r with
  | none => exact wpAny_pure h1
  | some v =>
    refine wpAny_bind (wpAny_mono h1 (fun _ s2 h2 => wpAny_bind (wpAny_mono h2 (fun _ s3 h3 => wpAny_bind (wpAny_mono h3 (fun ok s4 h4 => ?_) fun _ _ h' => h')) fun _ _ h' => h')) fun _ _ h' => h')
    cases ok with
    | false => exact wpAny_pure ⟨rfl, h4⟩
    | true => exact h4
theorem loop3 {elt t0 i0 t1 i1 t2 i2 : Expr} {f0 f1 f2 : List Expr} {sc : Scope} {pos : Pos} {it acc : Value} {env : Env} {k : Nat} {p : Pos} {tg : Expr} {fs : List Expr} {tail : Sem Fin}
    (ht : compTurn (e3 elt t0 i0 f0 t1 i1 f1 t2 i2 f2 sc pos) k it acc env = turnOf (e3 elt t0 i0 f0 t1 i1 f1 t2 i2 f2 sc pos) k p tg fs tail it acc env) (I : Nat → Shared → Prop)
    (turn : ∀ n s, I n s → wpAny (model prog w) A (pyNext it) (fun r s1 => match r with
      | none => R (.ok .next) s1
      | some v => wpAny (model prog w) A (letOwnedTupleGo tg it v) (fun _ s2 => wpAny (model prog w) A (assign tg env v) (fun _ s3 => wpAny (model prog w) A (ifsOk fs env) (fun ok s4 =>
          if ok = true then wpAny (model prog w) A tail (to_ R (.compLoop (e3 elt t0 i0 f0 t1 i1 f1 t2 i2 f2 sc pos) k it acc env) fun s' => ∃ m, m < n ∧ I m s') (nb prog w A env R) s4
          else ∃ m, m < n ∧ I m s4) (nb prog w A env R) s3) (nb prog w A env R) s2) (nb prog w A env R) s1) (nb prog w A env R) s)
    (n : Nat) (h : I n s) : codeAny (model prog w) A (.compLoop (e3 elt t0 i0 f0 t1 i1 f1 t2 i2 f2 sc pos) k it acc env) R s :=
  clause_loop rfl rfl rfl ht I turn n h
theorem tailO_ok {e i1 : Expr} {k : Nat} {it acc : Value} {env : Env} {G : Shared → Prop} {E : Value → Shared → Prop} (hs : ∀ x, foldedSetIterable i1 env x = pure x)
    (h : wpAny (model prog w) A (eval i1 env) (fun x s1 => wpAny (model prog w) A (pyIter x) (fun j s2 => codeAny (model prog w) A (.compStart e (k + 1) j acc env) (fun r s' => match r with
      | .ok _ => G s'
      | .error _ => False) s2) E s1) E s) :
    wpAny (model prog w) A (tailO e k i1 it acc env) (to_ R (.compLoop e k it acc env) G) E s := by
  refine wpAny_bind (wpAny_mono h (fun x s1 h1 => ?_) fun _ _ h' => h')
  refine wpAny_bind (wpAny_standAt (wpAny_bind (wpAny_of_eq (hs x) (wpAny_bind (wpAny_holding (wpAny_mono h1 (fun j s2 h2 => ?_) fun _ _ h' => h'))))))
  refine wpAny_bind (wpAny_runOwn ?_)
  rw [Around.mark_none]
  refine codeAny_mono h2 fun r s' hr => ?_
  cases r with
  | ok f => exact wpAny_pure ⟨rfl, hr⟩
  | error x => exact hr.elim
theorem start3 {elt t0 i0 t1 i1 t2 i2 : Expr} {f0 f1 f2 : List Expr} {sc : Scope} {pos : Pos} {it acc : Value} {env : Env} {k : Nat} (hk : k = 1 ∨ k = 2)
    (h0 : codeAny (model prog w) A (.compLoop (e3 elt t0 i0 f0 t1 i1 f1 t2 i2 f2 sc pos) k it acc env) R s)
    (h : wpAny (model prog w) A (pyIter it) (fun j s' => codeAny (model prog w) A (.compLoop (e3 elt t0 i0 f0 t1 i1 f1 t2 i2 f2 sc pos) k j acc env) R s') (nb prog w A env R) s) :
    codeAny (model prog w) A (.compStart (e3 elt t0 i0 f0 t1 i1 f1 t2 i2 f2 sc pos) k it acc env) R s := by
  refine codeAny_of_tree ?_
  show wpAny _ _ ((compStart (e3 elt t0 i0 f0 t1 i1 f1 t2 i2 f2 sc pos) k it acc env).onRaise (fun x => do noteFrame x env; standAt theWindowsPlace)) _ _ s
  refine wpAny_notedAt ?_
  rcases hk with rfl | rfl
  all_goals
    unfold compStart
    show wpAny _ _ (ask >>= _) _ _ s
    refine wpAny_bind (wpAny_askSetting (wpAny_ite ?_))
    split
    · first
        | exact wpAny_bind (wpAny_pure (wpAny_pure (And.intro rfl h0)))
        | exact wpAny_pure (And.intro rfl h0)
    · refine wpAny_bind (wpAny_rule ?_)
      first
        | exact wpAny_bind (wpAny_standAt (wpAny_bind (wpAny_mono h (fun j s' h' => wpAny_pure (And.intro rfl h')) fun _ _ x => x)))
        | (show wpAny _ _ (standAt _ >>= _) _ _ s; exact wpAny_bind (wpAny_standAt (wpAny_bind (wpAny_mono h (fun j s' h' => wpAny_pure (And.intro rfl h')) fun _ _ x => x))))
end
/-- what stands behind a clause's tests: from the slots as they are to what is wanted next; only vs may be lost -/
def Bd (Y : Cx) (vs : List Nat) (body : Sem Fin) (c : Code) (tb : L2.St → Hp → (Hp → Prop) → Prop) : Prop := ∀ (pins : List (Addr × Obj)) (s : Shared) (σ : L2.St) (H : Hp) (Nx : Hp → Prop) (R : Result → Shared → Prop), Inv Y pins σ H s → tb σ H Nx →
  wpAny (model Y.prog Y.w) Y.A body (to_ R c fun s' => ∃ σ' H', Inv Y pins σ' H' s' ∧ σ'.length = σ.length ∧ (∀ (j : Nat) v, j ∉ vs → σ[j]? = some (some v) → σ'[j]? = some (some v)) ∧ Nx H') (fun _ _ => False) s
def tApp (D : Addr) (te : TE) : L2.St → Hp → (Hp → Prop) → Prop := fun σ H Nx => te σ H fun y H4 => ∃ acc, H4 D = some (.lst acc) ∧ acc.length < sizeLine ∧ Nx (upd H4 D (.lst (acc ++ [y])))
def tLvl (wi : TI) (g : TG) (tt : TT) (tb : L2.St → Hp → (Hp → Prop) → Prop) (vs : List Nat) : L2.St → Hp → (Hp → Prop) → Prop := fun σ H Nx => wi σ H fun J H1 => ∃ W : Nat → Nat → Hp → Prop, (∃ m, W 0 m H1) ∧ ∀ i m H, W i m H →
  (J.stop i H ∧ Nx H) ∨ (J.go i H ∧ ∃ N1 : Hp → Prop, (∀ H', N1 H' → ∃ m', m' < m ∧ W (i + 1) m' H') ∧ ∀ x H', J.yld i H x H' → g x (wipe σ vs) H' fun σ2 H2 => wipe σ2 vs = wipe σ vs ∧ tt σ2 H2 fun b H3 => if b = true then tb σ2 H3 N1 else N1 H3)
section
variable {Y : Cx} {elt t0 i0 t1 i1 t2 i2 : Expr} {f0 f1 f2 : List Expr} {sc : Scope} {pos : Pos} {D : Addr}
theorem bd_in {e : Expr} {k : Nat} {te : TE} {it : Value} (hx : ∀ v s, ¬ Y.xe v s) (pe : PE Y elt te) : Bd Y [] (tailI e k elt it (.ref D) Y.env) (.compLoop e k it (.ref D) Y.env) (tApp D te) := by
  intro pins s σ H Nx R I h
  refine wpAny_bind (wpAny_bind (wpAny_mono (pe.run pins s σ H _ I h) (fun v s1 h1 => ?_) fun v s q => (hx v s q).elim))
  obtain ⟨y, H1, I1, r1, acc, hD, hz, nx⟩ := h1
  refine wpAny_bind (app_ok I1 hD hz r1 fun s2 I2 => wpAny_pure (wpAny_pure ⟨rfl, σ, _, I2, rfl, fun _ _ _ q => q, nx⟩))
theorem bd_out {k1 : Nat} {p : Pos} {j1 tg : Expr} {fs : List Expr} {tl : Value → Sem Fin} {wi : TI} {g : TG} {tt : TT} {tb : L2.St → Hp → (Hp → Prop) → Prop} {vs1 vs2 : List Nat} {k : Nat} {it0 : Value}
    (ek : k1 = k + 1) (hk : k1 = 1 ∨ k1 = 2) (hc : Y.calm = true) (hx : ∀ v s, ¬ Y.xe v s) (hs : ∀ x, foldedSetIterable j1 Y.env x = pure x) (pi : PI Y tg j1 wi) (pg : PG Y tg g) (pt : PTs Y fs tt)
    (ht : ∀ it, compTurn (e3 elt t0 i0 f0 t1 i1 f1 t2 i2 f2 sc pos) k1 it (.ref D) Y.env = turnOf (e3 elt t0 i0 f0 t1 i1 f1 t2 i2 f2 sc pos) k1 p tg fs (tl it) it (.ref D) Y.env)
    (bd : ∀ it, Bd Y vs2 (tl it) (.compLoop (e3 elt t0 i0 f0 t1 i1 f1 t2 i2 f2 sc pos) k1 it (.ref D) Y.env) tb) (sub : ∀ j ∈ vs2, j ∈ vs1) :
    Bd Y vs1 (tailO (e3 elt t0 i0 f0 t1 i1 f1 t2 i2 f2 sc pos) k j1 it0 (.ref D) Y.env) (.compLoop (e3 elt t0 i0 f0 t1 i1 f1 t2 i2 f2 sc pos) k it0 (.ref D) Y.env) (tLvl wi g tt tb vs1) := by
  intro pins s σ H Nx R I h
  subst ek
  have thx : ∀ {α : Type} {t : Sem α} {Q Q' : α → Shared → Prop} {E' : Value → Shared → Prop} {s : Shared}, wpAny (model Y.prog Y.w) Y.A t Q Y.xe s → (∀ a s, Q a s → Q' a s) → wpAny (model Y.prog Y.w) Y.A t Q' E' s :=
    fun h q => wpAny_mono h q fun v s z => (hx v s z).elim
  refine tailO_ok hs (thx (pi.run pins s σ H _ I h) fun xv s1 hx1 => thx hx1 fun itv s2 h2 => ?_)
  obtain ⟨it, fp, tn, J, H2, e1, I2, T, st2, f2', W, ⟨m0, w0⟩, turn⟩ := h2
  subst e1
  have stat : ∀ {H' : Hp}, (∀ b ∈ fp, H' b = none) → ∀ b ∈ fp, FpOk Y pins H' b := fun hn b hb => ⟨hn b hb, (f2' b hb).2⟩
  have loop : codeAny (model Y.prog Y.w) Y.A (.compLoop (e3 elt t0 i0 f0 t1 i1 f1 t2 i2 f2 sc pos) (k + 1) (.ref it) (.ref D) Y.env) (fun r s' => match r with
      | .ok _ => ∃ σ' H', Inv Y pins σ' H' s' ∧ σ'.length = σ.length ∧ (∀ (j : Nat) v, j ∉ vs1 → σ[j]? = some (some v) → σ'[j]? = some (some v)) ∧ Nx H'
      | .error _ => False) s2 := by
    refine loop3 (ht (.ref it)) (fun n s' => ∃ i H', Inv Y pins (wipe σ vs1) H' s' ∧ tn i s'.heap ∧ (∀ b ∈ fp, H' b = none) ∧ W i n H') ?_ m0 ⟨0, H2, I2.weak (wipe_length _ _) (fun j v e => (wipe_some e).1), st2, fun b hb => (f2' b hb).1, w0⟩
    rintro n s3 ⟨i, H3, I3, st3, n3, w3⟩
    rcases turn i n H3 w3 with ⟨stop, nx⟩ | ⟨go, N1, hN1, step⟩
    · refine thnF (T.done Y rfl rfl rfl hc i _ s3 (wipe σ vs1) H3 (fun _ _ => False) I3 (stat n3) st3 stop) fun r s4 ⟨hr, I4⟩ => ?_
      subst hr
      exact ⟨_, H3, I4, wipe_length _ _, fun j v nj e => by rw [wipe_out nj]; exact e, nx⟩
    · refine thnF (T.item Y rfl rfl rfl hc i _ s3 (wipe σ vs1) H3 (fun _ _ => False) I3 (stat n3) st3 go) fun r s4 ⟨u, hr, h4⟩ => ?_
      subst hr
      refine thnF h4 fun _ s5 ⟨x, H5, I5, r5, y5, st5, n5⟩ => ?_
      have I5' := I5.pinned (stat n5) (T.obj _ _ st5)
      refine thx (pg.run _ s5 (wipe σ vs1) H5 x u _ I5' r5 (step x H5 y5)) fun _ s6 ⟨σ6, H6, I6, hw6, q6⟩ => ?_
      refine thx (pt.run _ s6 σ6 H6 _ I6 q6) fun b s7 ⟨H7, I7, q7⟩ => ?_
      have fin : ∀ {s' : Shared} {H' : Hp} {σ' : L2.St}, Inv Y (pins ++ pinsAt fp s5.heap) σ' H' s' → σ'.length = σ6.length → (∀ (j : Nat) v, j ∉ vs2 → σ6[j]? = some (some v) → σ'[j]? = some (some v)) → N1 H' →
          ∃ m, m < n ∧ ∃ i H', Inv Y pins (wipe σ vs1) H' s' ∧ tn i s'.heap ∧ (∀ b ∈ fp, H' b = none) ∧ W i m H' := fun {s' H' σ'} I' hl hk nx => by
        obtain ⟨m', hm, w'⟩ := hN1 H' nx
        have pin' : ∀ b ∈ fp, ∀ o, s5.heap.get? b = some o → s'.heap.get? b = some o ∧ H' b = none := fun b hb o e =>
          let z := I'.pin (b, o) (List.mem_append_right _ (List.mem_append_right _ (mem_pinsAt hb e)))
          ⟨z.1, z.2.1⟩
        refine ⟨m', hm, i + 1, H', I'.unpinned.weak (by rw [hl, ← hw6, wipe_length]) (fun j v e => ?_), T.keep _ _ _ st5 fun b hb o e => (pin' b hb o e).1, fun b hb => ?_, w'⟩
        · rw [← hw6] at e
          obtain ⟨z1, z2⟩ := wipe_some e
          exact hk j v (fun z => z2 (sub j z)) z1
        · obtain ⟨o, e, _⟩ := T.obj _ _ st5 b hb
          exact (pin' b hb o e).2
      cases b with
      | false =>
        simp only [Bool.false_eq_true, if_false] at q7 ⊢
        exact fin I7 rfl (fun _ _ _ q => q) q7
      | true =>
        simp only [if_true] at q7 ⊢
        refine thnF (bd (.ref it) _ s7 σ6 H7 N1 (fun _ _ => False) I7 q7) fun fn s8 h8 => ?_
        cases fn with
        | done f => exact (show False from h8).elim
        | again c' =>
          obtain ⟨e8, σ8, H8, I8, l8, k8, nx8⟩ := h8
          exact ⟨e8, fin I8 l8 k8 nx8⟩
  exact start3 hk loop (T.self Y.A 0 _ _ _ st2 loop)
end
section
variable {X : Cx} {elt t0 i0 t1 i1 t2 i2 : Expr} {f0 f1 f2 : List Expr} {sc : Scope} {pos : Pos}
def tLc3 (wi : TI) (g : TG) (tt : TT) (wi1 : TI) (g1 : TG) (tt1 : TT) (wi2 : TI) (g2 : TG) (tt2 : TT) (te : TE) (vs vs1 vs2 : List Nat) : TE := fun σ H Q => wi σ H fun J H1 => ∀ D, H1 D = none → ∃ W : Nat → Nat → Hp → Prop, (∃ m, W 0 m (upd H1 D (.lst []))) ∧ ∀ i m H, W i m H →
  (J.stop i H ∧ Q (.ref D) H) ∨ (J.go i H ∧ ∃ N1 : Hp → Prop, (∀ H', N1 H' → ∃ m', m' < m ∧ W (i + 1) m' H') ∧ ∀ x H', J.yld i H x H' → g x (wipe σ vs) H' fun σ2 H2 => wipe σ2 vs = wipe σ vs ∧ tt σ2 H2 fun b H3 =>
    if b = true then tLvl wi1 g1 tt1 (tLvl wi2 g2 tt2 (tApp D te) vs2) vs1 σ2 H3 N1 else N1 H3)
abbrev Blk (X : Cx) (sc : Scope) (p : Cx → Prop) : Prop := ∀ (s : Shared) (H : Hp) (C : Addr) (cl : List (Str × Addr)) (fp : List Addr), p (X.blk s H sc (compEnvC sc cl C X.env) fp)
theorem pe_lc3 {own : List (Str × Nat)} {vs1 vs2 : List Nat} {wi wi1 wi2 : TI} {g g1 g2 : TG} {tt tt1 tt2 : TT} {te : TE} (hc : X.calm = true) (hN : X.N.Nodup) (hi : PI X t0 i0 wi) (ok : BlkOk X.N X.env.scope sc own) (hv : ∀ i ∈ vs1, i ∈ own.map (·.2)) (hv2 : ∀ i ∈ vs2, i ∈ vs1)
    (hg : Blk X sc fun Y => PG Y t0 g) (ht : Blk X sc fun Y => PTs Y f0 tt) (hi1 : Blk X sc fun Y => PI Y t1 i1 wi1) (hg1 : Blk X sc fun Y => PG Y t1 g1) (ht1 : Blk X sc fun Y => PTs Y f1 tt1)
    (hi2 : Blk X sc fun Y => PI Y t2 i2 wi2) (hg2 : Blk X sc fun Y => PG Y t2 g2) (ht2 : Blk X sc fun Y => PTs Y f2 tt2) (he : Blk X sc fun Y => PE Y elt te)
    (hs : ∀ x, foldedSetIterable i0 X.env x = pure x := by intro _; rfl) (hs1 : ∀ env x, foldedSetIterable i1 env x = pure x := by intro _ _; rfl) (hs2 : ∀ env x, foldedSetIterable i2 env x = pure x := by intro _ _; rfl) :
    PE X (.ListComp elt [⟨t0, i0, f0, 0⟩, ⟨t1, i1, f1, 0⟩, ⟨t2, i2, f2, 0⟩] sc pos) (tLc3 wi g tt wi1 g1 tt1 wi2 g2 tt2 te (own.map (·.2)) vs1 vs2) := by
  refine ⟨fun pins s σ H Q I h => ?_⟩
  rw [eval_ListComp]
  have hfree : ∀ y ∈ sc.names, y.2 = .free → ∃ c, X.env.cells.lookup y.1 = some c := fun y hy e => (ok.free y hy e).elim (fun k => I.ok.has _ (.inl k)) (fun k => I.ok.has _ (.inr k))
  refine wpAny_comprehension_free rfl hs (closure_ok hfree) ok.kind (fun y hy e => by rw [ok.uniq y hy, e]) (thn (hi.run pins s σ H _ I h) fun xv s1 hx => thn hx fun itv s2 h2 => ?_)
  obtain ⟨it, fp, tn, J, H2, e, I2, T, st2, f2', q⟩ := h2
  subst e
  refine wpAny_newObj_type (newEnv_comp ?_) (by show 0 ≤ sizeLine; decide)
  generalize hD : s2.heap.objs.size = D
  have hDn : H2 D = none := I2.hok.fresh (Nat.le_of_eq hD)
  obtain ⟨W, ⟨m0, w0⟩, turn⟩ := q D hDn
  generalize hs3 : ({ s2 with heap := s2.heap.push { cls := .type "list", data := .seq ([] : List Value).toArray } } : Shared) = s3
  have h3 : s3.heap = s2.heap.push { cls := .type "list", data := .seq ([] : List Value).toArray } := by rw [← hs3]
  have I3 : Inv X pins σ (upd H2 D (.lst [])) s3 := by
    rw [← hs3]
    refine I2.laid (t' := s2.toks) (fun b o e => Heap.get?_push_of_some _ e) (Nat.le_of_eq hD) ⟨Nat.zero_le _, [], 0, .nil, ?_⟩
    rw [← hD]; exact Heap.get?_push_size _ rfl
  have f3 : ∀ b ∈ fp, FpOk X pins (upd H2 D (.lst [])) b ∧ b < s3.heap.objs.size := fun b hb => by
    obtain ⟨o, e, _⟩ := T.obj _ _ st2 b hb
    have hlt : b < s2.heap.objs.size := Heap.lt_size e
    refine ⟨⟨?_, (f2' b hb).2⟩, by rw [h3, Heap.size_push]; exact Nat.lt_succ_of_lt hlt⟩
    rw [upd_ne (by rw [← hD]; exact Nat.ne_of_lt hlt)]; exact (f2' b hb).1
  have st3 : tn 0 s3.heap := T.keep _ _ _ st2 fun b _ o e => by rw [h3]; exact Heap.get?_push_of_some _ e
  have I4 := block_start I3 ok hN f3
  show codeAny _ _ (.compStart (.ListComp elt [⟨t0, i0, f0, 0⟩, ⟨t1, i1, f1, 0⟩, ⟨t2, i2, f2, 0⟩] sc pos) 0 (.ref it) (.ref D) (compEnvC sc (cellsFrom (s3.heap.objs.size + 1) sc.names (cloFrom X.env.cells sc.names [])) s3.heap.objs.size X.env)) (compPost (model X.prog X.w) X.A X.xe none (EP X pins σ Q) (.ref D) s3.heap.objs.size) { s3 with heap := pushCells (s3.heap.push { cls := .type "dict", data := .dict #[] }) sc.names }
  generalize hcl : cellsFrom (s3.heap.objs.size + 1) sc.names (cloFrom X.env.cells sc.names []) = cl at I4 ⊢
  have pg := hg s3 (upd H2 D (.lst [])) s3.heap.objs.size cl fp
  have pt := ht s3 (upd H2 D (.lst [])) s3.heap.objs.size cl fp
  have bd : ∀ it0, Bd (X.blk s3 (upd H2 D (.lst [])) sc (compEnvC sc cl s3.heap.objs.size X.env) fp) vs1 (tailO (e3 elt t0 i0 f0 t1 i1 f1 t2 i2 f2 sc pos) 0 i1 it0 (.ref D) (compEnvC sc cl s3.heap.objs.size X.env))
      (.compLoop (e3 elt t0 i0 f0 t1 i1 f1 t2 i2 f2 sc pos) 0 it0 (.ref D) (compEnvC sc cl s3.heap.objs.size X.env)) (tLvl wi1 g1 tt1 (tLvl wi2 g2 tt2 (tApp D te) vs2) vs1) := fun it0 =>
    bd_out (Y := X.blk s3 (upd H2 D (.lst [])) sc (compEnvC sc cl s3.heap.objs.size X.env) fp) rfl (.inl rfl) hc (fun _ _ z => z) (hs1 _) (hi1 _ _ _ _ _) (hg1 _ _ _ _ _) (ht1 _ _ _ _ _) (fun it => turn3_1)
      (fun it => bd_out (Y := X.blk s3 (upd H2 D (.lst [])) sc (compEnvC sc cl s3.heap.objs.size X.env) fp) rfl (.inr rfl) hc (fun _ _ z => z) (hs2 _) (hi2 _ _ _ _ _) (hg2 _ _ _ _ _) (ht2 _ _ _ _ _) (fun it => turn3_2)
        (fun it => bd_in (fun _ _ z => z) (he _ _ _ _ _)) (fun j hj => by cases hj)) hv2
  generalize hce : compEnvC sc cl s3.heap.objs.size X.env = ce at I4 pg pt bd ⊢
  have cL : ce.locals = s3.heap.objs.size := by subst hce; rfl
  generalize hH3 : upd H2 D (.lst []) = H3 at I3 I4 pg pt bd w0 f3
  have nfp : ∀ b ∈ fp, H3 b = none := fun b hb => (f3 b hb).1.1
  generalize hs4 : ({ s3 with heap := pushCells (s3.heap.push { cls := .type "dict", data := .dict #[] }) sc.names } : Shared) = s4 at I4 ⊢
  have st4 : tn 0 s4.heap := T.keep _ _ _ st3 fun b _ o e => by rw [← hs4]; exact pushCells_keeps _ _ _ _ (Heap.get?_push_of_some _ e)
  have stat : ∀ {σ' : L2.St} {H' : Hp} {s' : Shared}, Inv (X.blk s3 H3 sc ce fp) [] σ' H' s' → (∀ b ∈ fp, H' b = none) → ∀ b ∈ fp, FpOk (X.blk s3 H3 sc ce fp) [] H' b := fun {σ' H' s'} I' hn b hb =>
    ⟨hn b hb, (I'.ok.exf b hb).1, I'.ok.exfs b hb, .inl hb, fun x c e => (I'.ok.exf b hb).2 x c e, fun p hp => absurd (show p ∈ ([] : List (Addr × Obj)) ++ [] from hp) (by simp)⟩
  have loop : codeAny (model X.prog X.w) X.A (.compLoop (e3 elt t0 i0 f0 t1 i1 f1 t2 i2 f2 sc pos) 0 (.ref it) (.ref D) ce) (compPost (model X.prog X.w) X.A X.xe none (EP X pins σ Q) (.ref D) s3.heap.objs.size) s4 := by
    refine loop3 turn3_0 (fun n s' => ∃ i H', Inv (X.blk s3 H3 sc ce fp) [] (wipe σ (own.map (·.2))) H' s' ∧ tn i s'.heap ∧ (∀ b ∈ fp, H' b = none) ∧ W i n H') ?_ m0 ⟨0, H3, I4, st4, nfp, w0⟩
    rintro n s5 ⟨i, H5, I5, st5, n5, w5⟩
    rcases turn i n H5 w5 with ⟨stop, qq⟩ | ⟨go, N1, hN1, step⟩
    · refine thnF (T.done (X.blk s3 H3 sc ce fp) rfl rfl rfl hc i [] s5 _ H5 (fun _ _ => False) I5 (stat I5 n5) st5 stop) fun r s6 ⟨hr, I6⟩ => ?_
      subst hr
      have I7 : Inv X pins σ H5 s6 := I3.call' (ch := fp) I6.os I6.base I6.hok I6.bare fun b hb => let z := (f3 b hb).1.2; ⟨z.2.2.1, z.1, z.2.2.2.1, z.2.2.2.2⟩
      have nC : H5 s3.heap.objs.size = none := by
        have z : H5 ce.locals = none := I6.free
        rwa [cL] at z
      obtain ⟨m, hn, _⟩ := I6.loc
      have hn : s6.heap.Ns ce.locals m := hn
      rw [cL] at hn
      obtain ⟨u0, u1, u2, u3, u4, u5⟩ := I3.fpOk (Nat.le_refl _) nC
      exact ⟨m, hn, fun h'' sb => ⟨.ref D, H5, I7.turned (t' := s6.toks) (fun b o hb e => (sb.2 b hb).trans e) u0 u1 u3 u4 u5, rfl, qq⟩⟩
    · refine thnF (T.item (X.blk s3 H3 sc ce fp) rfl rfl rfl hc i [] s5 _ H5 (fun _ _ => False) I5 (stat I5 n5) st5 go) fun r s6 ⟨u, hr, h6⟩ => ?_
      subst hr
      refine thnF h6 fun _ s7 ⟨x, H7, I7, r7, y7, st7, n7⟩ => ?_
      have I7' := I7.pinned (stat I7 n7) (T.obj _ _ st7)
      refine thnF (pg.run _ s7 _ H7 x u _ I7' r7 (step x H7 y7)) fun _ s8 ⟨σ8, H8, I8, hw8, q8⟩ => ?_
      refine thnF (pt.run _ s8 σ8 H8 _ I8 q8) fun b s9 ⟨H9, I9, q9⟩ => ?_
      have fin : ∀ {s' : Shared} {H' : Hp} {σ' : L2.St}, Inv (X.blk s3 H3 sc ce fp) ([] ++ pinsAt fp s7.heap) σ' H' s' → σ'.length = σ8.length → (∀ (j : Nat) v, j ∉ vs1 → σ8[j]? = some (some v) → σ'[j]? = some (some v)) → N1 H' →
          ∃ m, m < n ∧ ∃ i H', Inv (X.blk s3 H3 sc ce fp) [] (wipe σ (own.map (·.2))) H' s' ∧ tn i s'.heap ∧ (∀ b ∈ fp, H' b = none) ∧ W i m H' := fun {s' H' σ'} I' hl hk nx => by
        obtain ⟨m', hm, w'⟩ := hN1 H' nx
        have pin' : ∀ b ∈ fp, ∀ o, s7.heap.get? b = some o → s'.heap.get? b = some o ∧ H' b = none := fun b hb o e =>
          let z := I'.pin (b, o) (List.mem_append_right _ (List.mem_append_right _ (mem_pinsAt hb e)))
          ⟨z.1, z.2.1⟩
        refine ⟨m', hm, i + 1, H', (I'.unpinned (pins := [])).weak (by rw [hl, ← hw8, wipe_length]) (fun j v e => ?_), T.keep _ _ _ st7 fun b hb o e => (pin' b hb o e).1, fun b hb => ?_, w'⟩
        · rw [← hw8] at e
          obtain ⟨z1, z2⟩ := wipe_some e
          exact hk j v (fun z => z2 (hv j z)) z1
        · obtain ⟨o, e, _⟩ := T.obj _ _ st7 b hb
          exact (pin' b hb o e).2
      cases b with
      | false =>
        simp only [Bool.false_eq_true, if_false] at q9 ⊢
        exact fin I9 rfl (fun _ _ _ q => q) q9
      | true =>
        simp only [if_true] at q9 ⊢
        refine thnF (bd (.ref it) _ s9 σ8 H9 N1 (fun _ _ => False) I9 q9) fun fn s10 h10 => ?_
        cases fn with
        | done f => exact (show False from h10).elim
        | again c' =>
          obtain ⟨e10, σ10, H10, I10, l10, k10, nx10⟩ := h10
          exact ⟨e10, fin I10 l10 k10 nx10⟩
  exact codeAny_compStart_list loop (T.self X.A 0 _ _ _ st4 loop)
end
end Kk

set_option maxHeartbeats 8000000
namespace Kk
open PySem PySem.Spec PyProof.Rows L2
/-- list.extend(tuple), whatever stands in them -/
def rExtT (K : PySem.W.Frag) : V → List V → Hp → VK → Prop := fun x vs H Q => ∃ l b xs zs, x = .ref l ∧ vs = [.ref b] ∧ H l = some (.lst xs) ∧ SqT K H b zs ∧ xs.length + zs.length ≤ sizeLine ∧ Q .non (upd H l (.lst (xs ++ zs)))
theorem ext_tup (l : Addr) (items : Array Value) (n : Nat) (b : Addr) (items2 : Array Value) (n2 : Nat) (od : Option Addr) (osl : Array (Option Value)) (h0 : ¬(!items.isEmpty && Builtin.List.listTooLong (items.size + items2.size)) = true) (h1 : items.size ≤ sizeLine) (h2 : items.size + items2.size ≤ sizeLine + 1) :
    Meets (Builtin.«list.extend» ⟨[.ref l, .ref b], []⟩) (fun _ R s => s.heap.get? l = some { cls := .type "list", dict := none, data := .seq items n, slots := #[] } ∧ s.heap.get? b = some ⟨.type "tuple", od, .seq items2 n2, osl⟩ ∧ R (.ok (.ret Value.none)) { s with heap := s.heap.update l (Obj.mapSeq fun x => x ++ items2), toks := s.toks }) :=
  .of_wp fun prog w A R s h => by
    obtain ⟨hp, g, d, tk, os⟩ := s
    obtain ⟨hl, hb, h⟩ := h
    have f1 := PySem.AutoSeq1.idx_int
    have f2 := PySem.AutoSeq1.sub_tuple_tuple
    have f3 := PySem.AutoSeq1.sub_list_list
    have f4 := PySem.AutoSeq1.sub_tuple_list
    have f5 := PySem.AutoSeq1.sub_list_tuple
    have hz' : (items ++ items2).size ≤ sizeLine + 1 := by rw [Array.size_append]; exact h2
    wp_walk using (wpAny_updateSeq hl rfl (hz := h1) (_hz' := hz')), PySem.AutoSeq1.wpAny_loadPart' hl, PySem.AutoSeq1.wpAny_loadPart' hb
    exact ⟨_, rfl, h⟩
theorem mt_extT {X : Cx} : MtM X "list.extend" (rExtT X.K) := by
  intro pins s σ H x vs v us Q I rx rv h
  obtain ⟨l, b, xs, zs, rfl, rfl, hH, hB, hz, q⟩ := h
  cases rx
  obtain ⟨u, rfl, ru⟩ := rv.one
  cases ru
  obtain ⟨z, its, n, r, hl, e⟩ := I.lstM hH
  obtain ⟨its2, r2, ⟨o, ho, hc, n2, hd⟩, hz2⟩ := I.tuple hB
  obtain ⟨oc, od, odt, osl⟩ := o
  simp only at hc hd
  subst hc; subst hd
  have l1 := r.length
  have l2 := r2.length
  have hsz : its.toArray.size + its2.toArray.size ≤ sizeLine := by rw [List.size_toArray, List.size_toArray]; omega
  have hlong : ¬ (!its.toArray.isEmpty && Builtin.List.listTooLong (its.toArray.size + its2.toArray.size)) = true := by
    rw [notLongL hsz, Bool.and_false]; exact Bool.false_ne_true
  refine call_meets PySem.F.slot_list_extend ⟨_, e, rfl⟩ PySem.F.entry_list_extend (PySem.F.args_list_extend_2 _ _)
    (ext_tup l its.toArray n b its2.toArray n2 od osl hlong (by rw [List.size_toArray]; omega) (by omega)) ⟨e, ho, ?_⟩
  refine ⟨.non, _, I.lset (its' := its ++ its2) hH e (by simp) (r.append r2) ?_, rfl, q⟩
  rw [List.length_append]; omega
end Kk

set_option maxHeartbeats 8000000
namespace K03
open PySem PySem.Spec PyProof.Rows L2 Kk
/-! rows, and rows in words, as data -/
def itm : PyData → List PyData
  | .tuple xs => xs
  | _ => []
def innD : PyData → List PyData
  | .tuple [.str k, .tuple rs] => if k = ("choose" : Str) then rs else if k = ("loop" : Str) then [.tuple rs] else []
  | _ => []
theorem inn_mk (k : Str) (rs : List PyData) : innD (.tuple [.str k, .tuple rs]) = if k = ("choose" : Str) then rs else if k = ("loop" : Str) then [.tuple rs] else [] := rfl
theorem inn_loop (ws : List PyData) : innD (.tuple [.str ("loop" : Str), .tuple ws]) = [.tuple ws] := by rw [inn_mk, if_neg (by decide +kernel), if_pos rfl]
theorem inn_drop (xs : List Str) : innD (.tuple [.str ("drop" : Str), tsL xs]) = [] := by unfold tsL; rw [inn_mk, if_neg (by decide +kernel), if_neg (by decide +kernel)]
def Rw (D : Dm) (c m l : Nat) (r : PyData) : Prop := ∃ ws, r = .tuple ws ∧ ws.length ≤ c ∧ ∀ w ∈ ws, Wd D m l w
def allR : Nat → PyData → List PyData
  | 0, r => [r]
  | n + 1, r => r :: (itm r).flatMap fun w => (innD w).flatMap (allR n)
theorem allR_cons (m : Nat) (r : PyData) : ∃ t, allR m r = r :: t := by cases m <;> exact ⟨_, rfl⟩
/-- the three forms of a word, by the rows in it -/
theorem wd_rows {D : Dm} {m l : Nat} {w : PyData} (h : Wd D m l w) : (∃ rs, w = .tuple [.str ("choose" : Str), .tuple rs] ∧ innD w = rs) ∨ (∃ ws, w = .tuple [.str ("loop" : Str), .tuple ws] ∧ innD w = [.tuple ws]) ∨
    (∃ k ps, w = .tuple (.str k :: ps) ∧ k ≠ ("choose" : Str) ∧ k ≠ ("loop" : Str) ∧ innD w = []) := by
  cases h with
  | choose => exact .inl ⟨_, rfl, by simp [innD]⟩
  | loop => exact .inr (.inl ⟨_, rfl, inn_loop _⟩)
  | drop =>
    exact .inr (.inr ⟨_, _, rfl, by decide +kernel, by decide +kernel, inn_drop _⟩)
  | _ => exact .inr (.inr ⟨_, _, rfl, by decide +kernel, by decide +kernel, rfl⟩)
theorem wd_inn {D : Dm} {m l : Nat} {w : PyData} (h : Wd D m l w) : (innD w).length ≤ 4 ∧ ∀ r ∈ innD w, ∃ m' l', m = m' + 1 ∧ Rw D 3 m' l' r := by
  cases h with
  | @choose n l rows h0 h4 h3 hw =>
    have e : innD (.tuple [ts "choose", .tuple (rows.map PyData.tuple)]) = rows.map PyData.tuple := by simp [innD]
    rw [e]
    refine ⟨by rw [List.length_map]; exact h4, fun r hr => ?_⟩
    obtain ⟨ws, hws, rfl⟩ := List.mem_map.mp hr
    exact ⟨n, l, rfl, ws, rfl, h3 ws hws, hw ws hws⟩
  | @loop n l ws h3 hw =>
    rw [inn_loop]
    refine ⟨by show 1 ≤ 4; decide, fun r hr => ?_⟩
    rw [List.mem_singleton.mp hr]
    exact ⟨n, l + 1, rfl, ws, rfl, h3, hw⟩
  | drop =>
    rw [inn_drop]; exact ⟨by decide, fun r hr => by cases hr⟩
  | _ => exact ⟨by show ([] : List PyData).length ≤ 4; decide, fun r hr => by cases (show r ∈ ([] : List PyData) from hr)⟩
def lenB : Nat → Nat → Nat
  | _, 0 => 1
  | c, m + 1 => 1 + c * (4 * lenB 3 m)
theorem flat_le {α β : Type} (f : α → List β) (B : Nat) : ∀ (l : List α), (∀ x ∈ l, (f x).length ≤ B) → (l.flatMap f).length ≤ l.length * B
  | [], _ => by simp
  | x :: l, h => by
    rw [List.flatMap_cons, List.length_append, List.length_cons, Nat.succ_mul]
    have h1 := h x List.mem_cons_self
    have h2 := flat_le f B l fun y hy => h y (List.mem_cons_of_mem _ hy)
    omega
theorem all_le {D : Dm} : ∀ (m c l : Nat) (r : PyData), Rw D c m l r → (allR m r).length ≤ lenB c m
  | 0, _, _, _, _ => Nat.le_refl 1
  | m + 1, c, l, r, h => by
    obtain ⟨ws, rfl, hc, hw⟩ := h
    show (_ :: ws.flatMap _).length ≤ 1 + c * (4 * lenB 3 m)
    rw [List.length_cons]
    have h1 : (ws.flatMap fun w => (innD w).flatMap (allR m)).length ≤ ws.length * (4 * lenB 3 m) := flat_le _ _ ws fun w hw' => by
      obtain ⟨q1, q2⟩ := wd_inn (hw w hw')
      have := flat_le (allR m) (lenB 3 m) (innD w) fun r' hr' => by
        obtain ⟨m', l', e, hr''⟩ := q2 r' hr'
        obtain rfl : m = m' := by omega
        exact all_le m 3 l' r' hr''
      exact Nat.le_trans this (Nat.mul_le_mul_right _ q1)
    have h2 : ws.length * (4 * lenB 3 m) ≤ c * (4 * lenB 3 m) := Nat.mul_le_mul_right _ hc
    omega
theorem all_big {D : Dm} {m l : Nat} {r : PyData} (hm : m ≤ 4) (h : Rw D 12 m l r) : (allR m r).length ≤ 100000 := by
  have := all_le m 12 l r h
  have h4 : m = 0 ∨ m = 1 ∨ m = 2 ∨ m = 3 ∨ m = 4 := by omega
  rcases h4 with rfl | rfl | rfl | rfl | rfl
  · exact Nat.le_trans this (by decide)
  · exact Nat.le_trans this (by decide)
  · exact Nat.le_trans this (by decide)
  · exact Nat.le_trans this (by decide)
  · exact Nat.le_trans this (by decide)
theorem Rw.up {D : Dm} {c c' m l : Nat} {r : PyData} (h : Rw D c m l r) (e : c ≤ c') : Rw D c' m l r := let ⟨ws, a, b, d⟩ := h; ⟨ws, a, Nat.le_trans b e, d⟩
end K03

set_option maxHeartbeats 8000000
namespace Kk
open PySem PySem.Spec PyProof.Rows L2
theorem TpAll.snoc_inv {K : PySem.W.Frag} {H : Hp} : ∀ {ds : List PyData} {vs : List V} {d : PyData}, TpAll K H vs (ds ++ [d]) → ∃ vs0 x, vs = vs0 ++ [x] ∧ TpAll K H vs0 ds ∧ Tp K H x d
  | [], _, _, h => by
    cases h with
    | cons a b => cases b; exact ⟨[], _, rfl, .nil, a⟩
  | e :: ds, _, _, h => by
    cases h with
    | cons a b =>
      obtain ⟨vs0, x, rfl, q1, q2⟩ := TpAll.snoc_inv b
      exact ⟨_ :: vs0, x, rfl, .cons a q1, q2⟩
theorem Ex.own2 {H H2 H3 : Hp} {F G : Addr} (nF : H F = none) (nG : H G = none) (e : Ex [] H H2) (a : Ex [F, G] H2 H3) : Ex [] H H3 :=
  Ex.own nG Ex.refl (Ex.own nF (e.nil (ys := [G])) a)
end Kk
namespace K03
open PySem PySem.Spec PyProof.Rows L2 Kk
abbrev s_rows_of : Stmt := topS 2
theorem sc_rows_of : FnScope ["word"] ["word"] (defScope s_rows_of) := ⟨rfl, rfl, rfl, by decide +kernel, rfl, by decide +kernel, by decide +kernel⟩
abbrev s_all_rows : Stmt := topS 3
abbrev n_all_rows : List Str := ["row", "found", "due", "inner", "word"]
theorem sc_all_rows : FnScope n_all_rows ["row"] (defScope s_all_rows) := ⟨rfl, rfl, rfl, by decide +kernel, rfl, by decide +kernel, by decide +kernel⟩
abbrev dA (dd : List (Nat × PyData)) : List PyData := dd.flatMap fun p => allR p.1 p.2
abbrev dI (m : Nat) (ws : List PyData) : List (Nat × PyData) := ws.flatMap fun w => (innD w).map (Prod.mk m)
theorem dA_len (dd : List (Nat × PyData)) : dd.length ≤ (dA dd).length := by
  induction dd with
  | nil => simp
  | cons p dd ih =>
    obtain ⟨t, e⟩ := allR_cons p.1 p.2
    show (p :: dd).length ≤ (allR p.1 p.2 ++ dA dd).length
    rw [List.length_append, e, List.length_cons, List.length_cons]; omega
theorem all_split {D : Dm} {c m l : Nat} {ws : List PyData} (h : ∀ w ∈ ws, Wd D m l w) : allR m (.tuple ws) = .tuple ws :: dA (dI (m - 1) ws) := by
  cases m with
  | zero =>
    have e : dI (0 - 1) ws = [] := by
      apply List.flatMap_eq_nil_iff.mpr
      intro w hw
      obtain ⟨_, q⟩ := wd_inn (h w hw)
      cases hi : innD w with
      | nil => rfl
      | cons r rs =>
        obtain ⟨m', _, z, _⟩ := q r (by rw [hi]; exact List.mem_cons_self)
        omega
    rw [e]; rfl
  | succ m =>
    show _ :: _ = _
    congr 1
    show ws.flatMap _ = (ws.flatMap fun w => (innD w).map (Prod.mk m)).flatMap _
    rw [List.flatMap_assoc]
    congr 1
    funext w
    rw [List.flatMap_map]
section
variable {P : Program} {w : World} {K : PySem.W.Frag} {mg : Str → Option Value} {base : Heap}
def spRowsOf (K : PySem.W.Frag) : Sp := fun vs H Q _ => ∃ (v : V) (wd : PyData) (D : Dm) (m l : Nat), vs = [v] ∧ Tp K H v wd ∧ Wd D m l wd ∧ ∀ H' u, Ex [] H H' → Tp K H' u (.tuple (innD wd)) → Q u H'
theorem ok_rows_of {f : Addr} {fd : FuncData} {k : Nat} (F : Fun K "rows_of" "rows_of" s_rows_of f fd) : FnOk P w K mg base CX0 (k + 1) f fd ["word"] (spRowsOf K) := by
  refine F.ok sc_rows_of (fun vs H Q E h => ?_) (fun cdv A outer s H vs Q E hr h => ?_)
  · obtain ⟨v, wd, D, m, l, rfl, _⟩ := h; rfl
  · obtain ⟨v, wd, D, m, l, rfl, hT, hW, q⟩ := h
    refine ⟨_, pss_cons (ps_if (pt_cmpR op_eq (pe_ix ix_tup (pv 0) pe_int (fun _ _ => rfl)) pe_str (nomark _)) (pss_one (ps_ret (pe_ix ix_tup (pv 0) pe_int (fun _ _ => rfl)))) pss_nil)
      (pss_cons (ps_if (pt_cmpR op_eq (pe_ix ix_tup (pv 0) pe_int (fun _ _ => rfl)) pe_str (nomark _)) (pss_one (ps_ret (pe_tup (pa_cons (pe_ix ix_tup (pv 0) pe_int (fun _ _ => rfl)) pa_nil)))) pss_nil)
      (pss_one (ps_ret (pe_tup pa_nil)))), ?_⟩
    rcases wd_rows hW with ⟨rs, rfl, hi⟩ | ⟨ws, rfl, hi⟩ | ⟨k0, ps, rfl, n1, n2, hi⟩
    · rw [hi] at q
      cases hT with
      | tup hs ha =>
        cases ha with
        | cons a1 a2 =>
          cases a1
          cases a2 with
          | cons b1 b2 =>
            cases b2
            refine ⟨_, rfl, _, _, 0, _, rfl, rfl, hs, rfl, rfl, _, rfl, itD rfl ?_⟩
            exact ⟨_, rfl, _, _, 1, _, rfl, rfl, hs, rfl, q H _ .refl b1⟩
    · rw [hi] at q
      cases hT with
      | tup hs ha =>
        cases ha with
        | cons a1 a2 =>
          cases a1
          cases a2 with
          | cons b1 b2 =>
            cases b2
            refine ⟨_, rfl, _, _, 0, _, rfl, rfl, hs, rfl, rfl, _, rfl, itN (fun e => absurd (V.str.inj e) (by decide +kernel)) ?_⟩
            refine ⟨_, rfl, _, _, 0, _, rfl, rfl, hs, rfl, rfl, _, rfl, itD rfl ?_⟩
            refine ⟨_, rfl, _, _, 1, _, rfl, rfl, hs, rfl, (by show 1 ≤ sizeLine; decide), fun p np => ?_⟩
            exact q _ _ (.new np) (Tp.new np (.cons b1 .nil))
    · rw [hi] at q
      cases hT with
      | tup hs ha =>
        cases ha with
        | cons a1 a2 =>
          cases a1
          refine ⟨_, rfl, _, _, 0, _, rfl, rfl, hs, atN (j := 0) rfl, rfl, _, rfl, itN (fun e => n1 (V.str.inj e)) ?_⟩
          refine ⟨_, rfl, _, _, 0, _, rfl, rfl, hs, atN (j := 0) rfl, rfl, _, rfl, itN (fun e => n2 (V.str.inj e)) ?_⟩
          refine ⟨(by show 0 ≤ sizeLine; decide), fun p np => ?_⟩
          exact q _ _ (.new np) (Tp.new np .nil)
def spAllRows (K : PySem.W.Frag) : Sp := fun vs H Q _ => ∃ (v : V) (r : PyData) (D : Dm) (m l : Nat), vs = [v] ∧ Tp K H v r ∧ Rw D 12 m l r ∧ m ≤ 4 ∧
  ∀ H' p us fs, H p = none → Ex [] H H' → H' p = some (.lst us) → TpAll K H' us fs → fs.Perm (allR m r) → Q (.ref p) H'
theorem ok_all_rows {f fR : Addr} {fd fdR : FuncData} {k : Nat} (F : Fun K "all_rows" "all_rows" s_all_rows f fd) (CR : Cl P w K mg base k "rows_of" ["word"] (spRowsOf K) fR fdR) : FnOk P w K mg base CX0 (k + 1) f fd ["row"] (spAllRows K) := by
  refine F.ok sc_all_rows (fun vs H Q E h => ?_) (fun cdv A outer s H vs Q E hr h => ?_)
  · obtain ⟨v, r, D, m, l, rfl, _⟩ := h; rfl
  · obtain ⟨v, r, D, m, l, rfl, hT, hR, hm, q⟩ := h
    refine ⟨_, pss_cons (ps_set (i := 1) sc_all_rows.nd rfl (.inl rfl) (pe_lst pa_nil))
      (pss_cons (ps_set (i := 2) sc_all_rows.nd rfl (.inl rfl) (pe_lst (pa_cons (pv 0) pa_nil)))
      (pss_cons (ps_while PassesOwn.never (pt_truth (pv 2) (by intro _; rfl))
        (pss_cons (ps_set (i := 3) sc_all_rows.nd rfl (.inl rfl) (pe_bm0 PySem.F.plainAttrs_list PySem.F.slot_list_pop PySem.F.type_list_pop mt_pop (pv 2)))
        (pss_cons (ps_expr (pe_bm PySem.F.plainAttrs_list PySem.F.slot_list_append PySem.F.type_list_append mt_append (pv 1) (pa_cons (pv 3) pa_nil)))
        (pss_one (ps_for PassesOwn.never rfl (pi_tup (pv 3)) (pg_name (i := 4) sc_all_rows.nd rfl (.inl rfl))
          (pss_one (ps_expr (pe_bm PySem.F.plainAttrs_list PySem.F.slot_list_extend PySem.F.type_list_extend mt_extT (pv 2) (pa_cons (pe_call CR.g hr (by rfl) CR.m CR.k CR.b .nil pass0 (pa_cons (pv 4) pa_nil)) pa_nil)))))))))
      (pss_one (ps_ret (pv 1))))), ?_⟩
    have big := all_big hm hR
    have sml : ∀ n : Nat, n ≤ 200000 → n < sizeLine := fun n h => Nat.lt_of_le_of_lt h (by decide)
    refine ⟨(by show 0 ≤ sizeLine; decide), fun F nF => ?_⟩
    obtain ⟨y1, hF1⟩ := nw (o := .lst []) nF
    refine ⟨v, rfl, (by show 1 ≤ sizeLine; decide), fun G nG => ?_⟩
    obtain ⟨y2, hG2⟩ := nw (o := .lst [v]) nG
    have hF2 := y2.lst hF1
    have nG0 : H G = none := y1.f G nG
    have FG : F ≠ G := ne_of_none hF1 nG
    refine ⟨fun M σ H2 => ∃ (us vs : List V) (fs : List PyData) (dd : List (Nat × PyData)) (y3 y4 : Option V), σ = [some v, some (.ref F), some (.ref G), y3, y4] ∧ H2 F = some (.lst us) ∧ H2 G = some (.lst vs) ∧ TpAll K H2 us fs ∧ TpAll K H2 vs (dd.map Prod.snd) ∧
      (∀ p ∈ dd, ∃ l, Rw D 12 p.1 l p.2) ∧ (fs ++ dA dd).Perm (allR m r) ∧ Ex [] H H2 ∧ M = (dA dd).length, ⟨_, [], [v], [], [(m, r)], _, _, rfl, hF2, hG2, .nil, .cons ((hT.ex y1).ex y2) .nil, ?_, ?_, y1.trans y2, rfl⟩, ?_⟩
    · intro p hp
      rw [List.mem_singleton.mp hp]; exact ⟨l, hR⟩
    · show (allR m r ++ []).Perm _
      rw [List.append_nil]
    · rintro M σ H2 ⟨us, vs, fs, dd, y3, y4, rfl, hF, hG, tF, tG, hdd, hp, x2, eM⟩
      have lp := hp.length_eq
      rw [List.length_append] at lp
      have lf := tF.len
      have lg := tG.len
      rw [List.length_map] at lg
      have ld := dA_len dd
      refine ⟨.ref G, rfl, _, .inl ⟨vs, .of hG, rfl⟩, ?_⟩
      rcases List.eq_nil_or_concat dd with rfl | ⟨dd0, ⟨m1, r1⟩, rfl⟩
      · cases tG
        refine iteF ?_
        refine ⟨_, rfl, q H2 F us fs nF x2 hF tF ?_⟩
        have hp' : (fs ++ []).Perm (allR m r) := hp
        rwa [List.append_nil] at hp'
      · rw [List.concat_eq_append] at *
        rw [List.map_append] at tG
        obtain ⟨vs0, x, rfl, t0, tx⟩ := tG.snoc_inv
        have e1 : (!(vs0 ++ [x]).isEmpty) = true := by cases vs0 <;> rfl
        rw [if_pos e1]
        have tx : Tp K H2 x r1 := tx
        obtain ⟨l1, ws1, rfl, c1, w1⟩ := hdd (m1, r1) (by simp)
        have w1 : ∀ w ∈ ws1, Wd D m1 l1 w := w1
        have sp := all_split (c := 12) w1
        have edA : dA (dd0 ++ [(m1, .tuple ws1)]) = dA dd0 ++ allR m1 (.tuple ws1) := by
          show (dd0 ++ [(m1, PyData.tuple ws1)]).flatMap _ = _
          rw [List.flatMap_append]; simp
        rw [edA] at hp eM lp ld
        refine ⟨fun σ' H' => ∃ m', m' < M ∧ ∃ (us vs : List V) (fs : List PyData) (dd : List (Nat × PyData)) (y3 y4 : Option V), σ' = [some v, some (.ref F), some (.ref G), y3, y4] ∧ H' F = some (.lst us) ∧ H' G = some (.lst vs) ∧ TpAll K H' us fs ∧ TpAll K H' vs (dd.map Prod.snd) ∧
          (∀ p ∈ dd, ∃ l, Rw D 12 p.1 l p.2) ∧ (fs ++ dA dd).Perm (allR m r) ∧ Ex [] H H' ∧ m' = (dA dd).length, fun _ _ z => z, ?_⟩
        -- pop
        refine ⟨.ref G, rfl, .inl ⟨rfl, _, .of hG⟩, G, _, x, rfl, rfl, hG, by simp, ?_⟩
        rw [List.dropLast_concat]
        obtain ⟨z1, hG3⟩ := pw (o := .lst vs0) hG
        have hF3 := z1.lst hF (by simpa using FG)
        -- append
        refine ⟨.ref F, rfl, .inl ⟨rfl, _, .of hF3⟩, x, rfl, F, us, x, rfl, rfl, hF3, sml _ (by omega), ?_⟩
        obtain ⟨z2, hF4⟩ := pw (o := .lst (us ++ [x])) hF3
        have hG4 := z2.lst hG3 (by simpa using FG.symm)
        have z12 : Ex [F, G] H2 _ := (z1.mono fun b hb => by simp at hb; simp [hb]).trans (z2.mono fun b hb => by simp at hb; simp [hb])
        cases tx with
        | tup hs ha =>
          rename_i a1 ts1
          have hl1 := ha.len
          refine ⟨_, rfl, a1, rfl, ⟨ts1, z12.seqT hs⟩, for_tup (a := a1) (xs := ts1) (fun i σ H3 => ∃ (vs' : List V) (y4 : Option V), σ = [some v, some (.ref F), some (.ref G), some (.ref a1), y4] ∧ H3 F = some (.lst (us ++ [.ref a1])) ∧ H3 G = some (.lst vs') ∧
            TpAll K H3 vs' ((dd0 ++ dI (m1 - 1) (ws1.take i)).map Prod.snd) ∧ vs'.length ≤ dd0.length + 4 * i ∧ i ≤ ws1.length ∧ Ex [F, G] H2 H3) ?_ ?_ ?_ ?_⟩
          · refine ⟨vs0, _, rfl, hF4, hG4, ?_, ?_, Nat.zero_le _, z12⟩
            · show TpAll K _ vs0 ((dd0 ++ []).map Prod.snd)
              rw [List.append_nil]
              exact t0.ex z12
            · have := t0.len
              rw [List.length_map] at this; omega
          · rintro i σ H3 _ ⟨vs', y4, _, _, _, _, _, _, x3⟩
            exact x3.seqT hs
          · rintro i x' σ H3 hx ⟨vs', y4, rfl, hF3', hG3', tG3, lv, hi, x3⟩
            obtain ⟨d', hd', td'⟩ := ha.get hx
            have hi' : i < ws1.length := (List.getElem?_eq_some_iff.mp hd').1
            have hmem := List.mem_of_getElem? hd'
            refine ⟨.ref G, rfl, .inl ⟨rfl, _, .of hG3'⟩, x', rfl, x', d', D, m1, l1, rfl, td'.ex x3, w1 d' hmem, fun H4 u x4 tu => ?_⟩
            cases tu with
            | tup hu hau =>
              rename_i b zs
              have lz := hau.len
              have l4 := (wd_inn (w1 d' hmem)).1
              have hG5 := x4.lst hG3'
              have ll : (dA dd0 ++ allR m1 (.tuple ws1)).length = (dA dd0).length + (allR m1 (.tuple ws1)).length := List.length_append
              have ld0 := dA_len dd0
              refine ⟨G, b, vs', zs, rfl, rfl, hG5, hu, Nat.le_of_lt (sml _ (by omega)), ?_⟩
              obtain ⟨z5, hG6⟩ := pw (o := .lst (vs' ++ zs)) hG5
              have x5 : Ex [F, G] H2 _ := (x3.trans x4.nil).trans (z5.mono fun b hb => by simp at hb; simp [hb])
              refine ⟨vs' ++ zs, _, rfl, z5.lst (x4.lst hF3') (by simpa using FG), hG6, ?_, by rw [List.length_append]; omega, hi', x5⟩
              have et : ws1.take (i + 1) = ws1.take i ++ [d'] := by rw [List.take_add_one, hd']; rfl
              rw [et]
              have e2 : (dd0 ++ dI (m1 - 1) (ws1.take i ++ [d'])).map Prod.snd = (dd0 ++ dI (m1 - 1) (ws1.take i)).map Prod.snd ++ innD d' := by
                show (dd0 ++ (ws1.take i ++ [d']).flatMap _).map Prod.snd = _
                rw [List.flatMap_append, ← List.append_assoc, List.map_append]
                congr 1
                simp [List.map_map, Function.comp_def]
              rw [e2]
              exact ((tG3.ex x4).app hau).ex z5
          · rintro σ H3 ⟨vs', y4, rfl, hF3', hG3', tG3, lv, hi, x3⟩
            rw [hl1, List.take_length] at tG3
            have edB : dA (dd0 ++ dI (m1 - 1) ws1) = dA dd0 ++ dA (dI (m1 - 1) ws1) := List.flatMap_append
            refine ⟨_, ?_, us ++ [.ref a1], vs', fs ++ [.tuple ws1], dd0 ++ dI (m1 - 1) ws1, _, _, rfl, hF3', hG3', (tF.ex x3).app (.cons (.tup (x3.seqT hs) (ha.ex x3)) .nil), tG3, ?_, ?_, Ex.own2 nF nG0 x2 x3, rfl⟩
            · rw [edB, eM, sp, List.length_append, List.length_append, List.length_cons]; omega
            · intro p hp'
              rcases List.mem_append.mp hp' with z | z
              · exact hdd p (List.mem_append_left _ z)
              · obtain ⟨wz, hwz, hz⟩ := List.mem_flatMap.mp z
                obtain ⟨rz, hrz, rfl⟩ := List.mem_map.mp hz
                obtain ⟨m', l', em, hr'⟩ := (wd_inn (w1 wz hwz)).2 rz hrz
                refine ⟨l', ?_⟩
                have : m1 - 1 = m' := by omega
                show Rw D 12 (m1 - 1) l' rz
                rw [this]; exact hr'.up (by decide)
            · rw [edB]
              rw [sp] at hp
              refine List.Perm.trans ?_ hp
              rw [List.append_assoc]
              have pm : (PyData.tuple ws1 :: (dA dd0 ++ dA (dI (m1 - 1) ws1))).Perm (dA dd0 ++ PyData.tuple ws1 :: dA (dI (m1 - 1) ws1)) := List.perm_middle.symm
              exact List.Perm.append_left fs pm
end
end K03

set_option maxHeartbeats 8000000
namespace Kk
open PySem PySem.Spec PyProof.Rows L2
theorem perm_sum {a b : List Int} (h : a.Perm b) : a.sum = b.sum := by
  induction h with
  | nil => rfl
  | cons x _ ih => rw [List.sum_cons, List.sum_cons, ih]
  | swap x y l => simp only [List.sum_cons]; omega
  | trans _ _ p q => exact p.trans q
theorem pre_take (L : List Int) (val : Nat → Int) (hv : ∀ i x, L[i]? = some x → val i = x) : ∀ n, n ≤ L.length → preSum val n = (L.take n).sum
  | 0, _ => rfl
  | n + 1, h => by
    have hn : n < L.length := h
    have e := List.getElem?_eq_getElem hn
    show preSum val n + val n = _
    rw [pre_take L val hv n (by omega), List.take_add_one, e, List.sum_append, hv n _ e]; simp
theorem TpAll.at {K : PySem.W.Frag} {H : Hp} {vs : List V} {ds : List PyData} (h : TpAll K H vs ds) {i : Nat} {d : PyData} (e : ds[i]? = some d) : ∃ v, vs[i]? = some v ∧ Tp K H v d := by
  have hi : i < ds.length := (List.getElem?_eq_some_iff.mp e).1
  have hv : i < vs.length := by rw [h.len]; exact hi
  obtain ⟨d', q1, q2⟩ := h.get (List.getElem?_eq_getElem hv)
  rw [e] at q1; cases q1
  exact ⟨_, List.getElem?_eq_getElem hv, q2⟩
end Kk
namespace K03
open PySem PySem.Spec PyProof.Rows L2 Kk
abbrev s_words_in : Stmt := topS 4
theorem sc_words_in : FnScope ["row"] ["row"] (defScope s_words_in) := ⟨rfl, rfl, rfl, by decide +kernel, rfl, by decide +kernel, by decide +kernel⟩
def lnI (r : PyData) : Int := (itm r).length
def cntR (m : Nat) (r : PyData) : Int := ((allR m r).map lnI).sum
/-- each of all rows is a row -/
theorem all_rw {D : Dm} : ∀ (m c l : Nat) (r : PyData), 3 ≤ c → Rw D c m l r → ∀ x ∈ allR m r, ∃ m' l', m' ≤ m ∧ Rw D c m' l' x
  | 0, c, l, r, _, h, x, hx => by rw [List.mem_singleton.mp hx]; exact ⟨0, l, Nat.le_refl _, h⟩
  | m + 1, c, l, r, hc, h, x, hx => by
    rcases List.mem_cons.mp hx with z | z
    · rw [z]; exact ⟨m + 1, l, Nat.le_refl _, h⟩
    · obtain ⟨ws, rfl, _, hw⟩ := h
      obtain ⟨wz, hwz, z2⟩ := List.mem_flatMap.mp z
      obtain ⟨rz, hrz, z3⟩ := List.mem_flatMap.mp z2
      obtain ⟨m', l', e, hr⟩ := (wd_inn (hw wz hwz)).2 rz hrz
      obtain rfl : m = m' := by omega
      obtain ⟨m2, l2, q1, q2⟩ := all_rw m c l' rz hc (hr.up hc) x z3
      exact ⟨m2, l2, by omega, q2⟩
section
variable {P : Program} {w : World} {K : PySem.W.Frag} {mg : Str → Option Value} {base : Heap}
def spWordsIn (K : PySem.W.Frag) (T : Addr) : Sp := fun vs H Q _ => ∃ (v : V) (r : PyData) (D : Dm) (m l : Nat), vs = [v] ∧ Tp K H v r ∧ Rw D 12 m l r ∧ m ≤ 4 ∧ GxR.TabG H T ∧ ∀ H', Ex [] H H' → Q (.int (cntR m r)) H'
theorem ok_words_in {f c T fA : Addr} {k : Nat} {fdA : FuncData} {oc : Value} {od an : Option Addr} {osl : Array (Option Value)} {kV doc pm ct : Value}
    (lk : K.lookup f = some ⟨oc, od, .func (PySem.W.fnOf "words_in" "words_in" (defArgs s_words_in) (defBody s_words_in) (defScope s_words_in) .none kV doc pm an (.ref c) ct), osl⟩) (hc : PySem.W.codeIn K (.ref c) "words_in" = true)
    (tab : GxR.TabB base mg c T) (CA : Cl P w K mg base k "all_rows" ["row"] (spAllRows K) fA fdA) (m_sum : mg "sum" = none) (m_len : mg "len" = none) :
    FnOk P w K mg base CX0 (k + 1) f (PySem.W.fnOf "words_in" "words_in" (defArgs s_words_in) (defBody s_words_in) (defScope s_words_in) .none kV doc pm an (.ref c) ct) ["row"] (spWordsIn K T) := by
  refine okC lk hc sc_words_in (fun vs H Q E h => ?_) (fun A outer s H vs Q E hr h => ?_)
  · obtain ⟨v, r, D, m, l, rfl, _⟩ := h; rfl
  · obtain ⟨v, r, D, m, l, rfl, hT, hR, hm, hG, q⟩ := h
    refine ⟨_, pss_one (ps_ret (pe_sumL hr (by rfl) m_sum tab rfl ⟨rfl, rfl, by decide +kernel, rfl, rfl, fun y hy e => absurd e ((by decide +kernel : ∀ y ∈ [(Str.ofString ".0", NameKind.local), (Str.ofString "inner", NameKind.local), (Str.ofString "len", NameKind.globalImplicit)], y.2 ≠ NameKind.free) y hy)⟩
      (pe_call CA.g hr (by rfl) CA.m CA.k CA.b .nil pass0 (pa_cons (pv 0) pa_nil)) (fun _ => rfl))), ?_⟩
    refine ⟨v, rfl, v, r, D, m, l, rfl, hT, hR, hm, fun H1 p us fs np x1 hp tF pf => ?_⟩
    have hG1 := x1.t _ hG
    have hr1 : ∀ x ∈ fs, ∃ ws, x = .tuple ws := fun x hx => by
      obtain ⟨_, _, _, ws, e, _⟩ := all_rw m 12 l r (by decide) hR x (pf.mem_iff.mp hx)
      exact ⟨ws, e⟩
    refine ⟨p, us, fun i => ((fs.map lnI)[i]?).getD 0, rfl, .of hp, hG1, elt_len rfl rfl rfl m_len (fun i u hu => ?_), fun H2 hT2 => ?_⟩
    · obtain ⟨d, hd, td⟩ := tF.get hu
      obtain ⟨ws, rfl⟩ := hr1 d (List.mem_of_getElem? hd)
      cases td with
      | tup hs ha =>
        refine ⟨_, _, rfl, hs, ?_⟩
        rw [List.getElem?_map, hd]
        show ((ws.length : Int)) = _
        rw [ha.len]
    · have e : preSum (fun i => ((fs.map lnI)[i]?).getD 0) us.length = cntR m r := by
        have hl : us.length = (fs.map lnI).length := by rw [List.length_map, tF.len]
        rw [hl, pre_take (fs.map lnI) _ (fun i x hx => by rw [hx]; rfl) _ (Nat.le_refl _), List.take_length]
        exact perm_sum (pf.map lnI)
      rw [e]
      exact q H2 (x1.trans (.tabbed hG1 hT2))
end
end K03

set_option maxHeartbeats 8000000
namespace K03
open PySem PySem.Spec PyProof.Rows L2 Kk RZ
abbrev s_boxes_of : Stmt := topS 5
abbrev n_boxes_of : List Str := ["word", "found", "kind", "part"]
theorem sc_boxes_of : FnScope n_boxes_of ["word"] (defScope s_boxes_of) := ⟨rfl, rfl, rfl, by decide +kernel, rfl, by decide +kernel, by decide +kernel⟩
def formT : List (Str × List Str) := [("take", ["box", "name"]), ("ask", ["box"]), ("number", ["box", "whole"]), ("copy", ["box", "box"]), ("mix", ["box", "box", "box"]), ("open", ["box", "box"]), ("tell", ["box"]), ("wipe", ["box"]), ("clear", ["name"]),
  ("drop", ["boxes"]), ("choose", ["rows"]), ("loop", ["row"]), ("out", ["whole"]), ("risk", ["name"]), ("fault", ["name"]), ("call", ["name", "boxes", "boxes"]), ("back", [])].map fun p => (Str.ofString p.1, p.2.map Str.ofString)
def frm (k : Str) : List Str := ((formT.find? fun p => p.1 == k).map (·.2)).getD []
def tStr (ds : List PyData) : List Str := ds.filterMap fun d => match d with | .str x => some x | _ => none
theorem tStr_map (xs : List Str) : tStr (xs.map PyData.str) = xs := by
  induction xs with
  | nil => rfl
  | cons x xs ih => show x :: tStr (xs.map PyData.str) = _; rw [ih]
def stp (q : Str × PyData) : List Str := if q.1 = ("box" : Str) then tStr [q.2] else if q.1 = ("boxes" : Str) then tStr (itm q.2) else []
theorem stp_mk (k : Str) (p : PyData) : stp (k, p) = if k = ("box" : Str) then tStr [p] else if k = ("boxes" : Str) then tStr (itm p) else [] := rfl
def boxD (w : PyData) : List Str := match itm w with
  | .str k :: ps => ((frm k).zip ps).flatMap stp
  | _ => []
/-- where the forms stand -/
structure Fm (K : PySem.W.Frag) (w : World) (mg : Str → Option Value) (fA : Addr) : Prop where
  m : mg "FORMS" = some (.ref fA)
  k : ∀ k ks, (k, ks) ∈ formT → ∃ t, KDct K w fA k (.ref t) ∧ ∀ H, SqT K H t (ks.map V.str)
/-- a part of a kind -/
def Pt (D : Dm) (kd : Str) (p : PyData) : Prop := (kd = ("box" : Str) ∧ ∃ x, p = .str x ∧ x ∈ D.boxes) ∨ (kd = ("boxes" : Str) ∧ ∃ xs, p = tsL xs ∧ Kk.Sub D xs) ∨ (kd ≠ ("box" : Str) ∧ kd ≠ ("boxes" : Str))
inductive Pts (D : Dm) : List Str → List PyData → Prop
  | nil : Pts D [] []
  | cons {k : Str} {ks : List Str} {p : PyData} {ps : List PyData} : Pt D k p → Pts D ks ps → Pts D (k :: ks) (p :: ps)
theorem Pts.len {D : Dm} {ks : List Str} {ps : List PyData} (h : Pts D ks ps) : ks.length = ps.length := by
  induction h with
  | nil => rfl
  | cons _ _ ih => rw [List.length_cons, List.length_cons, ih]
theorem Pts.at {D : Dm} {ks : List Str} {ps : List PyData} (h : Pts D ks ps) : ∀ {i : Nat} {k : Str} {p : PyData}, ks[i]? = some k → ps[i]? = some p → Pt D k p := by
  induction h with
  | nil => intro i k p e; simp at e
  | cons a _ ih =>
    intro i k p e1 e2
    cases i with
    | zero => cases e1; cases e2; exact a
    | succ i => exact ih (i := i) (by simpa using e1) (by simpa using e2)
theorem pt_x {D : Dm} {x : Str} (h : x ∈ D.boxes) : Pt D (Str.ofString "box") (.str x) := .inl ⟨rfl, x, rfl, h⟩
theorem pt_xs {D : Dm} {xs : List Str} (h : Kk.Sub D xs) : Pt D (Str.ofString "boxes") (tsL xs) := .inr (.inl ⟨rfl, xs, rfl, h⟩)
theorem pt_o {D : Dm} {k : Str} {p : PyData} (h : k ≠ Str.ofString "box") (h2 : k ≠ Str.ofString "boxes") : Pt D k p := .inr (.inr ⟨h, h2⟩)
theorem wd_form {D : Dm} {m l : Nat} {w : PyData} (h : Wd D m l w) : ∃ k ps, w = .tuple (.str k :: ps) ∧ (k, frm k) ∈ formT ∧ Pts D (frm k) ps := by
  cases h with
  | take a b => exact ⟨Str.ofString "take", _, rfl, by decide +kernel, .cons (pt_x a) (.cons (pt_o (by decide +kernel) (by decide +kernel)) .nil)⟩
  | ask a => exact ⟨Str.ofString "ask", _, rfl, by decide +kernel, .cons (pt_x a) .nil⟩
  | number a => exact ⟨Str.ofString "number", _, rfl, by decide +kernel, .cons (pt_x a) (.cons (pt_o (by decide +kernel) (by decide +kernel)) .nil)⟩
  | copy a b => exact ⟨Str.ofString "copy", _, rfl, by decide +kernel, .cons (pt_x a) (.cons (pt_x b) .nil)⟩
  | mix a b c => exact ⟨Str.ofString "mix", _, rfl, by decide +kernel, .cons (pt_x a) (.cons (pt_x b) (.cons (pt_x c) .nil))⟩
  | opens a b => exact ⟨Str.ofString "open", _, rfl, by decide +kernel, .cons (pt_x a) (.cons (pt_x b) .nil)⟩
  | tell a => exact ⟨Str.ofString "tell", _, rfl, by decide +kernel, .cons (pt_x a) .nil⟩
  | wipe a => exact ⟨Str.ofString "wipe", _, rfl, by decide +kernel, .cons (pt_x a) .nil⟩
  | clear => exact ⟨Str.ofString "clear", _, rfl, by decide +kernel, .cons (pt_o (by decide +kernel) (by decide +kernel)) .nil⟩
  | drop a => exact ⟨Str.ofString "drop", _, rfl, by decide +kernel, .cons (pt_xs a) .nil⟩
  | risk => exact ⟨Str.ofString "risk", _, rfl, by decide +kernel, .cons (pt_o (by decide +kernel) (by decide +kernel)) .nil⟩
  | fault => exact ⟨Str.ofString "fault", _, rfl, by decide +kernel, .cons (pt_o (by decide +kernel) (by decide +kernel)) .nil⟩
  | back => exact ⟨Str.ofString "back", _, rfl, by decide +kernel, .nil⟩
  | out => exact ⟨Str.ofString "out", _, rfl, by decide +kernel, .cons (pt_o (by decide +kernel) (by decide +kernel)) .nil⟩
  | call _ a b => exact ⟨Str.ofString "call", _, rfl, by decide +kernel, .cons (pt_o (by decide +kernel) (by decide +kernel)) (.cons (pt_xs a) (.cons (pt_xs b) .nil))⟩
  | choose => exact ⟨Str.ofString "choose", _, rfl, by decide +kernel, .cons (pt_o (by decide +kernel) (by decide +kernel)) .nil⟩
  | loop => exact ⟨Str.ofString "loop", _, rfl, by decide +kernel, .cons (pt_o (by decide +kernel) (by decide +kernel)) .nil⟩
theorem frm_len (k : Str) : (frm k).length ≤ 3 := by
  unfold frm
  cases h : formT.find? fun p => p.1 == k with
  | none => simp
  | some p =>
    have hm := List.mem_of_find?_eq_some h
    have : ∀ p ∈ formT, p.2.length ≤ 3 := by decide +kernel
    exact this p hm
theorem sub_len {D : Dm} {xs : List Str} (h : Kk.Sub D xs) (h6 : D.boxes.length = 6) : xs.length ≤ 6 := by
  obtain ⟨r, p⟩ := h
  have := p.length_eq
  rw [List.length_append] at this; omega
theorem sub_mem {D : Dm} {xs : List Str} (h : Kk.Sub D xs) : ∀ x ∈ xs, x ∈ D.boxes := fun x hx => by
  obtain ⟨r, p⟩ := h
  exact p.mem_iff.mp (List.mem_append_left _ hx)
theorem stp_le {D : Dm} {k : Str} {p : PyData} (h6 : D.boxes.length = 6) (h : Pt D k p) : (stp (k, p)).length ≤ 6 ∧ ∀ x ∈ stp (k, p), x ∈ D.boxes := by
  rw [stp_mk]
  rcases h with ⟨rfl, x, rfl, hx⟩ | ⟨rfl, xs, rfl, hx⟩ | ⟨n1, n2⟩
  · rw [if_pos rfl]
    refine ⟨by show 1 ≤ 6; decide, fun y hy => ?_⟩
    rw [List.mem_singleton.mp (show y ∈ [x] from hy)]; exact hx
  · rw [if_neg (by decide +kernel), if_pos rfl]
    have e : tStr (itm (tsL xs)) = xs := tStr_map xs
    show (tStr (itm (tsL xs))).length ≤ 6 ∧ _
    rw [e]
    exact ⟨sub_len hx h6, fun y hy => sub_mem hx y hy⟩
  · rw [if_neg n1, if_neg n2]; exact ⟨by decide, fun y hy => by cases hy⟩
theorem box_mem {D : Dm} {m l : Nat} {w : PyData} (h6 : D.boxes.length = 6) (h : Wd D m l w) : (boxD w).length ≤ 18 ∧ ∀ x ∈ boxD w, x ∈ D.boxes := by
  obtain ⟨k, ps, rfl, _, hp⟩ := wd_form h
  have ez : ∀ q ∈ (frm k).zip ps, Pt D q.1 q.2 := fun q hq => by
    obtain ⟨i, hi, e⟩ := List.mem_iff_getElem.mp hq
    have e' := List.getElem?_eq_getElem hi
    rw [e, List.getElem?_zip_eq_some] at e'
    exact hp.at e'.1 e'.2
  show (((frm k).zip ps).flatMap stp).length ≤ 18 ∧ ∀ x ∈ ((frm k).zip ps).flatMap stp, x ∈ D.boxes
  constructor
  · have := flat_le stp 6 ((frm k).zip ps) fun q hq => (stp_le h6 (ez q hq)).1
    have l3 := frm_len k
    rw [List.length_zip] at this
    have : (((frm k).zip ps).flatMap stp).length ≤ 3 * 6 := Nat.le_trans this (Nat.mul_le_mul_right 6 (Nat.le_trans (Nat.min_le_left _ _) l3))
    exact this
  · intro x hx
    obtain ⟨q, hq, h2⟩ := List.mem_flatMap.mp hx
    exact (stp_le h6 (ez q hq)).2 x h2
theorem cut_one {x : V} {xs : List V} : cutV (x :: xs) (some 1) none = xs := by
  unfold cutV
  have e1 : HT.sIx (x :: xs).length 0 (some 1) = 1 := by
    show (if (1 : Int) < 0 then ((1 : Int) + ((x :: xs).length : Int)).toNat else min (1 : Int).toNat (x :: xs).length) = 1
    rw [if_neg (by decide), List.length_cons]; show min 1 (xs.length + 1) = 1; omega
  rw [e1, HT.sIx_none]
  show xs.take ((x :: xs).length - 1) = xs
  rw [List.length_cons, Nat.add_sub_cancel, List.take_length]
theorem one_cut {x : V} {xs : List V} : ¬ (HT.sIx (x :: xs).length 0 (some 1) = 0 ∧ HT.sIx (x :: xs).length (x :: xs).length none = (x :: xs).length) := fun ⟨h, _⟩ => by
  have e1 : HT.sIx (x :: xs).length 0 (some 1) = 1 := by
    show (if (1 : Int) < 0 then ((1 : Int) + ((x :: xs).length : Int)).toNat else min (1 : Int).toNat (x :: xs).length) = 1
    rw [if_neg (by decide), List.length_cons]; show min 1 (xs.length + 1) = 1; omega
  rw [e1] at h; cases h
section
variable {P : Program} {w : World} {K : PySem.W.Frag} {mg : Str → Option Value} {base : Heap}
def spBoxesOf (K : PySem.W.Frag) : Sp := fun vs H Q _ => ∃ (v : V) (wd : PyData) (D : Dm) (m l : Nat), vs = [v] ∧ Tp K H v wd ∧ Wd D m l wd ∧ D.boxes.length = 6 ∧ ∀ H' p, H p = none → Ex [] H H' → H' p = some (.lst ((boxD wd).map V.str)) → Q (.ref p) H'
theorem ok_boxes_of {f fA : Addr} {fd : FuncData} {k : Nat} (F : Fun K "boxes_of" "boxes_of" s_boxes_of f fd) (M : Fm K w mg fA) (m_zip : mg "zip" = none) : FnOk P w K mg base CX0 (k + 1) f fd ["word"] (spBoxesOf K) := by
  refine F.ok sc_boxes_of (fun vs H Q E h => ?_) (fun cdv A outer s H vs Q E hr h => ?_)
  · obtain ⟨v, wd, D, m, l, rfl, _⟩ := h; rfl
  · obtain ⟨v, wd, D, m, l, rfl, hT, hW, h6, q⟩ := h
    refine ⟨_, pss_cons (ps_set (i := 1) sc_boxes_of.nd rfl (.inl rfl) (pe_lst pa_nil))
      (pss_cons (ps_for PassesOwn.never rfl (pi_zipA (by rfl) m_zip (pa_cons (pe_ix ix_kdict (pe_glob (v := .ref fA) rfl M.m rfl) (pe_ix ix_tup (pv 0) pe_int (fun _ _ => rfl)) (fun _ _ => rfl)) (pa_cons (pe_slice sl_tupA (pv 0) (po_some pe_int) po_none) pa_nil)))
          (pg_tup rfl (pgs_cons (pg_name (i := 2) sc_boxes_of.nd rfl (.inl rfl)) (pgs_cons (pg_name (i := 3) sc_boxes_of.nd rfl (.inl rfl)) pgs_nil)))
          (pss_one (ps_if (pt_cmpR op_eq (pv 2) pe_str (nomark _)) (pss_one (ps_expr (pe_bm PySem.F.plainAttrs_list PySem.F.slot_list_append PySem.F.type_list_append mt_append (pv 1) (pa_cons (pv 3) pa_nil))))
            (pss_one (ps_if (pt_cmpR op_eq (pv 2) pe_str (nomark _)) (pss_one (ps_expr (pe_bm PySem.F.plainAttrs_list PySem.F.slot_list_extend PySem.F.type_list_extend mt_extT (pv 1) (pa_cons (pv 3) pa_nil)))) pss_nil)))))
      (pss_one (ps_ret (pv 1)))), ?_⟩
    have bl := (box_mem h6 hW).1
    obtain ⟨k0, ps, rfl, hk, hp⟩ := wd_form hW
    obtain ⟨tA, hd, hS⟩ := M.k _ _ hk
    have pl := hp.len
    have fl := frm_len k0
    refine ⟨(by show 0 ≤ sizeLine; decide), fun F nF => ?_⟩
    obtain ⟨y1, hF1⟩ := nw (o := .lst []) nF
    cases hT with
    | tup hs ha =>
      rename_i a xs
      cases ha with
      | cons a1 a2 =>
        cases a1
        rename_i rest
        have rl := a2.len
        refine ⟨.ref a, rfl, a, _, 0, _, rfl, rfl, y1.seqT hs, atN (j := 0) rfl, fA, k0, .ref tA, rfl, rfl, hd, ?_⟩
        refine ⟨.ref a, rfl, 1, rfl, a, _, rfl, y1.seqT hs, fun z => absurd z one_cut, fun _ B nB => ?_⟩
        rw [cut_one]
        obtain ⟨y2, hB2⟩ := nw (o := .tup rest) nB
        have hF2 := y2.lst hF1
        have x2 : Ex [] H _ := y1.trans y2
        refine ⟨tA, B, (frm k0).map V.str, rest, rfl, .inr ⟨hS _, .of hB2, for_zipT (a := tA) (b := B) (xs := (frm k0).map V.str) (ys := rest) (by rw [List.length_map]; omega) (fun i σ H3 => ∃ (y2 y3 : Option V), σ = [some (.ref a), some (.ref F), y2, y3] ∧
          H3 F = some (.lst (((((frm k0).zip ps).take i).flatMap stp).map V.str)) ∧ Ex [F] (upd (upd H F (.lst [])) B (.tup rest)) H3) ?_ ?_ ?_ ?_⟩⟩
        · exact ⟨_, _, rfl, hF2, .refl⟩
        · rintro i σ H3 ⟨y2, y3, _, _, x3⟩
          exact ⟨hS _, .of (x3.tup hB2)⟩
        · rintro i x y T σ H3 hx hy ⟨y2', y3', rfl, hF3, x3⟩ nT
          obtain ⟨d, hd1, td⟩ := a2.get hy
          rw [List.getElem?_map] at hx
          cases hkd : (frm k0)[i]? with
          | none => rw [hkd] at hx; cases hx
          | some kd =>
            rw [hkd] at hx
            cases hx
            have hpt := hp.at hkd hd1
            have hz : ((frm k0).zip ps)[i]? = some (kd, d) := List.getElem?_zip_eq_some.mpr ⟨hkd, hd1⟩
            have et : ((((frm k0).zip ps).take (i + 1)).flatMap stp) = ((((frm k0).zip ps).take i).flatMap stp) ++ stp (kd, d) := by
              rw [List.take_add_one, hz, List.flatMap_append]; simp
            have i3 : i < (frm k0).length := (List.getElem?_eq_some_iff.mp hkd).1
            have lz : ((((frm k0).zip ps).take i).flatMap stp).length ≤ 18 := by
              have := flat_le stp 6 (((frm k0).zip ps).take i) fun q hq => by
                obtain ⟨j, hj, e⟩ := List.mem_iff_getElem.mp (List.mem_of_mem_take hq)
                have e' := List.getElem?_eq_getElem hj
                rw [e, List.getElem?_zip_eq_some] at e'
                exact (stp_le h6 (hp.at e'.1 e'.2)).1
              rw [List.length_take] at this
              have m3 : min i ((frm k0).zip ps).length ≤ 3 := by omega
              exact Nat.le_trans this (Nat.mul_le_mul_right 6 m3)
            obtain ⟨yT, hT⟩ := nw (o := .tup [.str kd, y]) nT
            have hF4 := yT.lst hF3
            have td4 := ((td.ex x2).ex x3).ex yT
            have sl : ∀ n : Nat, n ≤ 1000 → n < sizeLine := fun n h => Nat.lt_of_le_of_lt h (by decide)
            refine ⟨T, _, rfl, .of hT, rfl, _, _, rfl, _, _, rfl, rfl, ?_⟩
            refine ⟨.str kd, rfl, rfl, _, rfl, ?_⟩
            rcases hpt with ⟨rfl, x, rfl, hx⟩ | ⟨rfl, xs', rfl, hx⟩ | ⟨n1, n2⟩
            · refine itD rfl ?_
              cases td4
              refine ⟨.ref F, rfl, .inl ⟨rfl, _, .of hF4⟩, .str x, rfl, F, _, _, rfl, rfl, hF4, by rw [List.length_map]; exact sl _ (by omega), ?_⟩
              obtain ⟨z5, hF5⟩ := pw (o := .lst (((((frm k0).zip ps).take i).flatMap stp).map V.str ++ [.str x])) hF4
              refine ⟨_, _, rfl, ?_, (x3.trans yT.nil).trans z5⟩
              rw [hF5, et, List.map_append]; rfl
            · refine itN (fun e => absurd (V.str.inj e) (by decide +kernel)) ?_
              refine ⟨_, rfl, rfl, _, rfl, itD rfl ?_⟩
              cases td4 with
              | tup hu hau =>
                rename_i b zs
                have ezs : zs = xs'.map V.str := by
                  clear hu
                  generalize xs' = ww at hau
                  induction zs generalizing ww with
                  | nil => cases ww with | nil => rfl | cons _ _ => cases hau
                  | cons z zs ih =>
                    cases ww with
                    | nil => cases hau
                    | cons q ww =>
                      cases hau with
                      | cons e1 e2 => cases e1; rw [ih ww e2]; rfl
                have lx := sub_len hx h6
                have e9 : stp (Str.ofString "boxes", tsL xs') = xs' := by
                  rw [stp_mk, if_neg (by decide +kernel), if_pos rfl]; exact tStr_map xs'
                refine ⟨.ref F, rfl, .inl ⟨rfl, _, .of hF4⟩, .ref b, rfl, F, b, _, zs, rfl, rfl, hF4, hu, ?_, ?_⟩
                · rw [List.length_map, ezs, List.length_map]; exact Nat.le_of_lt (sl _ (by omega))
                obtain ⟨z5, hF5⟩ := pw (o := .lst (((((frm k0).zip ps).take i).flatMap stp).map V.str ++ zs)) hF4
                refine ⟨_, _, rfl, ?_, (x3.trans yT.nil).trans z5⟩
                rw [hF5, et, List.map_append, e9, ezs]
            · refine itN (fun e => n1 (V.str.inj e)) ?_
              refine ⟨_, rfl, rfl, _, rfl, itN (fun e => n2 (V.str.inj e)) ?_⟩
              refine ⟨_, _, rfl, ?_, x3.trans yT.nil⟩
              rw [hF4, et]
              have e9 : stp (kd, d) = [] := by rw [stp_mk, if_neg n1, if_neg n2]
              rw [e9, List.append_nil]
        · rintro σ H3 ⟨y2', y3', rfl, hF3, x3⟩
          have hz : ((frm k0).zip ps).length = ((frm k0).map V.str).length := by rw [List.length_zip, List.length_map]; omega
          rw [← hz, List.take_length] at hF3
          exact ⟨_, rfl, q H3 F nF (Ex.own nF (Ex.refl) (x2.nil.trans x3)) hF3⟩
end
end K03

set_option maxHeartbeats 8000000
namespace Kk
open PySem PySem.Spec PyProof.Rows L2
theorem tyes_if {σ : L2.St} {H : Hp} {N tb : Hp → Prop} (h : tb H) : tYes σ H (fun b H3 => if b = true then tb H3 else N H3) := by
  show (if true = true then tb H else N H)
  rw [if_pos rfl]; exact h
theorem pi_tupK {X : Cx} {K : PySem.W.Frag} {tg l : Expr} {tl : TE} (h : X.K = K) (hl : PE X l tl) : PI X tg l (iTup K tl) := by subst h; exact pi_tup hl
theorem pi_listK {X : Cx} {K : PySem.W.Frag} {tg l : Expr} {tl : TE} (h : X.K = K) (hl : PE X l tl) : PI X tg l (iList K tl) := by subst h; exact pi_list hl
section
variable {K : PySem.W.Frag} {a : Addr} {xs : List V} {g : TG} {tt : TT} {tb : L2.St → Hp → (Hp → Prop) → Prop} {vs : List Nat} {σ : L2.St} {H : Hp} {Nx : Hp → Prop}
theorem lv_tup (Pv : Nat → Hp → Prop) (h0 : Pv 0 H) (hl : ∀ i H, i ≤ xs.length → Pv i H → SqT K H a xs)
    (hs : ∀ i x H, xs[i]? = some x → Pv i H → g x (wipe σ vs) H fun σ2 H2 => wipe σ2 vs = wipe σ vs ∧ tt σ2 H2 fun b H3 => if b = true then tb σ2 H3 (Pv (i + 1)) else Pv (i + 1) H3) (hd : ∀ H, Pv xs.length H → Nx H) :
    ∃ W : Nat → Nat → Hp → Prop, (∃ m, W 0 m H) ∧ ∀ i m H, W i m H → ((Itt K a).stop i H ∧ Nx H) ∨ ((Itt K a).go i H ∧ ∃ N1 : Hp → Prop, (∀ H', N1 H' → ∃ m', m' < m ∧ W (i + 1) m' H') ∧
      ∀ x H', (Itt K a).yld i H x H' → g x (wipe σ vs) H' fun σ2 H2 => wipe σ2 vs = wipe σ vs ∧ tt σ2 H2 fun b H3 => if b = true then tb σ2 H3 N1 else N1 H3) := by
  refine ⟨fun i m H => m = xs.length - i ∧ i ≤ xs.length ∧ Pv i H, ⟨xs.length, by simp, Nat.zero_le _, h0⟩, ?_⟩
  rintro i m H ⟨rfl, hi, p⟩
  have q := hl i H hi p
  by_cases hlt : i < xs.length
  · refine .inr ⟨⟨xs, xs[i], q, by simp [hlt]⟩, Pv (i + 1), fun H' p' => ⟨xs.length - (i + 1), by omega, rfl, hlt, p'⟩, fun x H' y => ?_⟩
    obtain ⟨e, y⟩ := y
    subst e
    exact hs i x _ (y xs q) p
  · obtain rfl : i = xs.length := by omega
    exact .inl ⟨⟨xs, q, Nat.le_refl _⟩, hd H p⟩
theorem lv_list (Pv : Nat → Hp → Prop) (h0 : Pv 0 H) (hl : ∀ i H, i ≤ xs.length → Pv i H → SqL K H a xs)
    (hs : ∀ i x H, xs[i]? = some x → Pv i H → g x (wipe σ vs) H fun σ2 H2 => wipe σ2 vs = wipe σ vs ∧ tt σ2 H2 fun b H3 => if b = true then tb σ2 H3 (Pv (i + 1)) else Pv (i + 1) H3) (hd : ∀ H, Pv xs.length H → Nx H) :
    ∃ W : Nat → Nat → Hp → Prop, (∃ m, W 0 m H) ∧ ∀ i m H, W i m H → ((Itl K a).stop i H ∧ Nx H) ∨ ((Itl K a).go i H ∧ ∃ N1 : Hp → Prop, (∀ H', N1 H' → ∃ m', m' < m ∧ W (i + 1) m' H') ∧
      ∀ x H', (Itl K a).yld i H x H' → g x (wipe σ vs) H' fun σ2 H2 => wipe σ2 vs = wipe σ vs ∧ tt σ2 H2 fun b H3 => if b = true then tb σ2 H3 N1 else N1 H3) := by
  refine ⟨fun i m H => m = xs.length - i ∧ i ≤ xs.length ∧ Pv i H, ⟨xs.length, by simp, Nat.zero_le _, h0⟩, ?_⟩
  rintro i m H ⟨rfl, hi, p⟩
  have q := hl i H hi p
  by_cases hlt : i < xs.length
  · refine .inr ⟨⟨xs, xs[i], q, by simp [hlt]⟩, Pv (i + 1), fun H' p' => ⟨xs.length - (i + 1), by omega, rfl, hlt, p'⟩, fun x H' y => ?_⟩
    obtain ⟨e, y⟩ := y
    subst e
    exact hs i x _ (y xs q) p
  · obtain rfl : i = xs.length := by omega
    exact .inl ⟨⟨xs, q, Nat.le_refl _⟩, hd H p⟩
end
end Kk
namespace K03
open PySem PySem.Spec PyProof.Rows L2 Kk RZ
abbrev s_boxes_in : Stmt := topS 6
abbrev n_boxes_in : List Str := ["row", "inner", "word", "box"]
theorem sc_boxes_in : FnScope n_boxes_in ["row"] (defScope s_boxes_in) := ⟨rfl, rfl, rfl, by decide +kernel, rfl, by decide +kernel, by decide +kernel⟩
def bxR (r : PyData) : List Str := (itm r).flatMap boxD
def bxAll (m : Nat) (r : PyData) : List Str := (allR m r).flatMap bxR
theorem frm3 : ∀ p ∈ formT, p.2.length ≤ 2 ∨ p.2 = ["box", "box", "box"].map Str.ofString ∨ p.2 = ["name", "boxes", "boxes"].map Str.ofString := by decide +kernel
theorem stp_one {D : Dm} {p : PyData} (h : Pt D (Str.ofString "box") p) : (stp (Str.ofString "box", p)).length ≤ 1 := by
  rw [stp_mk, if_pos rfl]
  rcases h with ⟨_, x, rfl, hx⟩ | ⟨e, _⟩ | ⟨n1, _⟩
  · exact Nat.le_refl 1
  · exact absurd e (by decide +kernel)
  · exact absurd rfl n1
theorem stp_name {p : PyData} : stp (Str.ofString "name", p) = [] := by rw [stp_mk, if_neg (by decide +kernel), if_neg (by decide +kernel)]
theorem box_len {D : Dm} {m l : Nat} {w : PyData} (h6 : D.boxes.length = 6) (h : Wd D m l w) : (boxD w).length ≤ 12 := by
  obtain ⟨k, ps, rfl, hk, hp⟩ := wd_form h
  show (((frm k).zip ps).flatMap stp).length ≤ 12
  rcases frm3 _ hk with z | z | z
  · have z : (frm k).length ≤ 2 := z
    have := flat_le stp 6 ((frm k).zip ps) fun q hq => by
      obtain ⟨i, hi, e⟩ := List.mem_iff_getElem.mp hq
      have e' := List.getElem?_eq_getElem hi
      rw [e, List.getElem?_zip_eq_some] at e'
      exact (stp_le h6 (hp.at e'.1 e'.2)).1
    rw [List.length_zip] at this
    have h2 : min (frm k).length ps.length ≤ 2 := by omega
    exact Nat.le_trans this (Nat.mul_le_mul_right 6 h2)
  · have z : frm k = [Str.ofString "box", Str.ofString "box", Str.ofString "box"] := z
    rw [z] at hp ⊢
    cases hp with
    | cons a1 r1 =>
      cases r1 with
      | cons a2 r2 =>
        cases r2 with
        | cons a3 r3 =>
          cases r3
          have b1 := stp_one a1
          have b2 := stp_one a2
          have b3 := stp_one a3
          simp only [List.zip_cons_cons, List.zip_nil_right, List.flatMap_cons, List.flatMap_nil, List.length_append, List.length_nil]
          omega
  · have z : frm k = [Str.ofString "name", Str.ofString "boxes", Str.ofString "boxes"] := z
    rw [z] at hp ⊢
    cases hp with
    | cons a1 r1 =>
      cases r1 with
      | cons a2 r2 =>
        cases r2 with
        | cons a3 r3 =>
          cases r3
          have b2 := (stp_le h6 a2).1
          have b3 := (stp_le h6 a3).1
          simp only [List.zip_cons_cons, List.zip_nil_right, List.flatMap_cons, List.flatMap_nil, List.length_append, List.length_nil, stp_name]
          omega
theorem bxR_le {D : Dm} {m l : Nat} {ws : List PyData} (h6 : D.boxes.length = 6) (hc : ws.length ≤ 12) (hw : ∀ w ∈ ws, Wd D m l w) : (ws.flatMap boxD).length ≤ 144 := by
  have := flat_le boxD 12 ws fun q hq => box_len h6 (hw q hq)
  exact Nat.le_trans this (Nat.mul_le_mul_right 12 hc)
section
variable {P : Program} {w : World} {K : PySem.W.Frag} {mg : Str → Option Value} {base : Heap}
def spBoxesIn (K : PySem.W.Frag) : Sp := fun vs H Q _ => ∃ (v : V) (r : PyData) (D : Dm) (m l : Nat), vs = [v] ∧ Tp K H v r ∧ Rw D 12 m l r ∧ m ≤ 4 ∧ D.boxes.length = 6 ∧
  ∀ H' u ys, Ex [] H H' → Tp K H' u (tsL ys) → sortedS ys = true → ys.Nodup → (∀ x, x ∈ ys ↔ x ∈ bxAll m r) → Q u H'
theorem ok_boxes_in {f fA fB : Addr} {fd fdA fdB : FuncData} {k : Nat} (F : Fun K "boxes_in" "boxes_in" s_boxes_in f fd) (CA : Cl P w K mg base k "all_rows" ["row"] (spAllRows K) fA fdA) (CB : Cl P w K mg base k "boxes_of" ["word"] (spBoxesOf K) fB fdB)
    (m_set : mg "set" = none) (m_sorted : mg "sorted" = none) (m_tuple : mg "tuple" = none) : FnOk P w K mg base CX0 (k + 1) f fd ["row"] (spBoxesIn K) := by
  refine F.ok sc_boxes_in (fun vs H Q E h => ?_) (fun cdv A outer s H vs Q E hr h => ?_)
  · obtain ⟨v, r, D, m, l, rfl, _⟩ := h; rfl
  · obtain ⟨v, r, D, m, l, rfl, hT, hR, hm, h6, q⟩ := h
    refine ⟨_, pss_one (ps_ret (pe_callTy call_tuple_of (by rfl) m_tuple (by decide +kernel) (pa_cons (pe_callB (call_sortSetS rfl) (by rfl) m_sorted (by decide +kernel) (pa_cons (pe_callTy (call_setS rfl) (by rfl) m_set (by decide +kernel) (pa_cons
      (pe_lc3 (own := [("inner", 1), ("word", 2), ("box", 3)]) (vs1 := [2, 3]) (vs2 := [3]) (g := gName 1) (g1 := gName 2) (g2 := gName 3) (tt := tYes) (tt1 := tYes) (tt2 := tYes) rfl sc_boxes_in.nd
        (pi_list (pe_call CA.g hr (by rfl) CA.m CA.k CA.b .nil pass0 (pa_cons (pv 0) pa_nil))) (blkOk_by (N := n_boxes_in) (sc := defScope s_boxes_in) (by decide +kernel)) (by decide) (by decide)
        (fun _ _ _ _ _ => pg_name (i := 1) sc_boxes_in.nd rfl (Or.inl rfl)) (fun _ _ _ _ _ => pts_nil) (fun _ _ _ _ _ => pi_tupK (K := K) rfl (pv 1)) (fun _ _ _ _ _ => pg_name (i := 2) sc_boxes_in.nd rfl (Or.inl rfl)) (fun _ _ _ _ _ => pts_nil)
        (fun _ _ _ _ _ => pi_listK (K := K) rfl (pe_call CB.g hr (by rfl) CB.m CB.k CB.b .nil pass0 (pa_cons (pv 2) pa_nil))) (fun _ _ _ _ _ => pg_name (i := 3) sc_boxes_in.nd rfl (Or.inl rfl)) (fun _ _ _ _ _ => pts_nil)
        (fun _ _ _ _ _ => pv 3)) pa_nil)) pa_nil)) pa_nil))), ?_⟩
    have big := all_big hm hR
    have sml : ∀ n : Nat, n ≤ 14500000 → n < sizeLine := fun n h => Nat.lt_of_le_of_lt h (by decide)
    refine ⟨v, rfl, v, r, D, m, l, rfl, hT, hR, hm, fun H1 p us fs np x1 hp tF pf => ⟨p, rfl, ⟨us, .of hp⟩, fun Dd nD => ?_⟩⟩
    have hrw : ∀ x ∈ fs, ∃ m' l' ws, x = .tuple ws ∧ ws.length ≤ 12 ∧ ∀ w ∈ ws, Wd D m' l' w := fun x hx => by
      obtain ⟨m', l', _, ws, e⟩ := all_rw m 12 l r (by decide) hR x (pf.mem_iff.mp hx)
      exact ⟨m', l', ws, e⟩
    have lf : us.length = fs.length := tF.len
    have lfs : fs.length ≤ 100000 := by rw [pf.length_eq]; exact big
    have hbx : ∀ x ∈ fs, (bxR x).length ≤ 144 := fun x hx => by
      obtain ⟨m', l', ws, rfl, c, hw⟩ := hrw x hx
      exact bxR_le h6 c hw
    have pD : p ≠ Dd := ne_of_none hp nD
    obtain ⟨y0, hD0⟩ := nw (o := .lst []) nD
    generalize upd H1 Dd (.lst []) = H10 at y0 hD0
    have tF0 := tF.ex y0
    have hp0 := y0.lst hp
    refine lv_list (a := p) (xs := us) (fun i H2 => H2 Dd = some (.lst (((fs.take i).flatMap bxR).map V.str)) ∧ Ex [Dd] H10 H2) ⟨hD0, .refl⟩ (fun i H2 _ h2 => .of (h2.2.lst hp0 (by simpa using pD))) (fun i x H2 hx h2 => ?_) (fun H2 h2 => ?_)
    · obtain ⟨hD2, x2⟩ := h2
      obtain ⟨d, hd, td⟩ := tF0.get hx
      obtain ⟨m', l', ws, rfl, c12, hw⟩ := hrw d (List.mem_of_getElem? hd)
      have hi : i < fs.length := (List.getElem?_eq_some_iff.mp hd).1
      have eti : (fs.take (i + 1)).flatMap bxR = (fs.take i).flatMap bxR ++ ws.flatMap boxD := by
        rw [List.take_add_one, hd, List.flatMap_append]; simp [bxR, itm]
      have lB : ((fs.take i).flatMap bxR).length ≤ i * 144 := by
        have := flat_le bxR 144 (fs.take i) fun q hq => hbx q (List.mem_of_mem_take hq)
        rw [List.length_take] at this
        exact Nat.le_trans this (Nat.mul_le_mul_right 144 (Nat.min_le_left _ _))
      refine ⟨rfl, tyes_if ?_⟩
      cases td with
      | tup hs ha =>
        rename_i a ts
        refine ⟨.ref a, rfl, a, rfl, ⟨ts, x2.seqT hs⟩, lv_tup (a := a) (xs := ts) (fun j H3 => H3 Dd = some (.lst (((fs.take i).flatMap bxR ++ (ws.take j).flatMap boxD).map V.str)) ∧ Ex [Dd] H10 H3) ⟨by rw [hD2]; simp, x2⟩ (fun j H3 _ h3 => h3.2.seqT hs) (fun j x3 H3 hx3 h3 => ?_) (fun H3 h3 => ?_)⟩
        · obtain ⟨hD3, x3'⟩ := h3
          obtain ⟨wd, hwd, tw⟩ := ha.get hx3
          have hj : j < ws.length := (List.getElem?_eq_some_iff.mp hwd).1
          have hW := hw wd (List.mem_of_getElem? hwd)
          have etj : (ws.take (j + 1)).flatMap boxD = (ws.take j).flatMap boxD ++ boxD wd := by
            rw [List.take_add_one, hwd, List.flatMap_append]; simp
          have lJ : ((ws.take j).flatMap boxD).length ≤ j * 12 := by
            have := flat_le boxD 12 (ws.take j) fun q hq => box_len h6 (hw q (List.mem_of_mem_take hq))
            rw [List.length_take] at this
            exact Nat.le_trans this (Nat.mul_le_mul_right 12 (Nat.min_le_left _ _))
          have lw := box_len h6 hW
          refine ⟨rfl, tyes_if ?_⟩
          refine ⟨x3, rfl, x3, wd, D, m', l', rfl, tw.ex x3', hW, h6, fun H4 pB nB x4 hB => ⟨pB, rfl, ⟨_, .of hB⟩, ?_⟩⟩
          have hD4 := x4.lst hD3
          have BD : pB ≠ Dd := (ne_of_none hD3 nB).symm
          refine lv_list (a := pB) (xs := (boxD wd).map V.str) (fun z H5 => H5 Dd = some (.lst (((fs.take i).flatMap bxR ++ (ws.take j).flatMap boxD ++ (boxD wd).take z).map V.str)) ∧ Ex [Dd] H4 H5) ⟨by rw [hD4]; simp, .refl⟩ (fun z H5 _ h5 => .of (h5.2.lst hB (by simpa using BD))) (fun z x5 H5 hx5 h5 => ?_) (fun H5 h5 => ?_)
          · obtain ⟨hD5, x5'⟩ := h5
            rw [List.getElem?_map] at hx5
            cases hb : (boxD wd)[z]? with
            | none => rw [hb] at hx5; cases hx5
            | some bx =>
              rw [hb] at hx5
              cases hx5
              have hz : z < (boxD wd).length := (List.getElem?_eq_some_iff.mp hb).1
              refine ⟨rfl, tyes_if ?_⟩
              refine ⟨.str bx, rfl, _, hD5, ?_, ?_⟩
              · rw [List.length_map, List.length_append, List.length_append, List.length_take]
                exact sml _ (by omega)
              · obtain ⟨z6, hD6⟩ := pw (o := .lst (((fs.take i).flatMap bxR ++ (ws.take j).flatMap boxD ++ (boxD wd).take z).map V.str ++ [.str bx])) hD5
                refine ⟨?_, x5'.trans z6⟩
                rw [hD6, List.take_add_one, hb]
                simp
          · obtain ⟨hD5, x5'⟩ := h5
            rw [List.length_map, List.take_length] at hD5
            refine ⟨?_, (x3'.trans x4.nil).trans x5'⟩
            rw [hD5, etj, List.append_assoc]
        · obtain ⟨hD3, x3'⟩ := h3
          rw [ha.len, List.take_length] at hD3
          exact ⟨by rw [hD3, eti], x3'⟩
    · obtain ⟨hD2, x2⟩ := h2
      rw [lf, List.take_length] at hD2
      have mem : ∀ x, x ∈ fs.flatMap bxR ↔ x ∈ bxAll m r := fun x => by
        unfold bxAll
        simp only [List.mem_flatMap]
        exact ⟨fun ⟨a, h1, h2⟩ => ⟨a, pf.mem_iff.mp h1, h2⟩, fun ⟨a, h1, h2⟩ => ⟨a, pf.mem_iff.mpr h1, h2⟩⟩
      have hsub : ∀ x ∈ fs.flatMap bxR, x ∈ D.boxes := fun x hx => by
        obtain ⟨r', h1, h2⟩ := List.mem_flatMap.mp hx
        obtain ⟨m', l', ws, rfl, c, hw⟩ := hrw r' h1
        obtain ⟨wd, h3, h4⟩ := List.mem_flatMap.mp h2
        exact (box_mem h6 (hw wd h3)).2 x h4
      have nDH : H Dd = none := x1.f Dd nD
      have x02 : Ex [] H H2 := Ex.own nDH (x1.trans y0) x2
      refine ⟨Dd, fs.flatMap bxR, D.boxes, rfl, .of hD2, hsub, by omega, fun S nS => ?_⟩
      have zS : Ex [] H2 (upd H2 S (SetS w S (fs.flatMap bxR))) := .new nS
      refine ⟨S, fs.flatMap bxR, D.boxes, rfl, upd_same, hsub, by omega, fun ys pL s1 s2 s3 nL => ?_⟩
      obtain ⟨zL, hL⟩ := nw (o := .lst (ys.map V.str)) nL
      refine ⟨pL, _, rfl, .inl ⟨.of hL, fun T nT => ?_⟩⟩
      exact q _ _ ys (((x02.trans zS).trans zL).trans (.new nT)) (.tup (.of upd_same) (TpAll.strs ys)) s1 s2 (fun x => (s3 x).trans (mem x))
end
end K03

set_option maxHeartbeats 8000000
namespace Kk
open PySem PySem.Spec PyProof.Rows L2
theorem all_yes (n : Nat) : (List.range n).all (fun _ => true) = true := by simp
/-- a tuple held against itself -/
theorem op_ne_self {X : Cx} {k : Nat} (hr : Room k X.A) : OpR X (compareOp .NotEq) (fun x y H Q => ∃ a xs, x = .ref a ∧ y = .ref a ∧ SqT X.K H a xs ∧ Q (.bl false) H) := by
  intro pins s σ H x y v u Q I rx ry h
  obtain ⟨a, xs, rfl, rfl, ha, q⟩ := h
  cases (show v = Value.ref a from rx)
  cases (show u = Value.ref a from ry)
  obtain ⟨its, r, pt, hz⟩ := I.tuple ha
  refine SeqAt.RcNeAt.tuples (e := fun _ => true) pt pt hr.units0 (fun j h1 _ => SeqAt.EqAt.same _) X.prog X.w X.xe _ ⟨.bl false, H, I, ?_, q⟩
  rw [all_yes]; simp; rfl
/-- two tuples of the same texts -/
theorem op_eq_strs {X : Cx} {k : Nat} (hr : Room k X.A) : OpR X (compareOp .Eq) (fun x y H Q => ∃ (a b : Addr) (ws : List Str), x = .ref a ∧ y = .ref b ∧ SqT X.K H a (ws.map V.str) ∧ SqT X.K H b (ws.map V.str) ∧ Q (.bl true) H) := by
  intro pins s σ H x y v u Q I rx ry h
  obtain ⟨a, b, ws, rfl, rfl, ha, hb, q⟩ := h
  cases (show v = Value.ref a from rx)
  cases (show u = Value.ref b from ry)
  obtain ⟨its, r, pt, hz⟩ := I.tuple ha
  obtain ⟨its2, r2, pt2, hz2⟩ := I.tuple hb
  have l1 : its.length = ws.length := by rw [← r.length, List.length_map]
  have l2 : its2.length = ws.length := by rw [← r2.length, List.length_map]
  refine SeqAt.eq_tupleAt (e := fun _ => true) pt pt2 hr.units0 (fun j h1 h2 => ?_) ⟨.bl true, H, I, ?_, q⟩
  · have hj : j < ws.length := by simpa [l1] using h1
    have e : (ws.map V.str)[j]? = some (.str ws[j]) := by rw [List.getElem?_map, List.getElem?_eq_getElem hj]; rfl
    obtain ⟨u1, hu1, ru1⟩ := r.get e
    obtain ⟨u2, hu2, ru2⟩ := r2.get e
    obtain ⟨t1, rfl⟩ := (show ∃ t, u1 = Value.str ws[j] t from ru1)
    obtain ⟨t2, rfl⟩ := (show ∃ t, u2 = Value.str ws[j] t from ru2)
    have e1 : its.toArray[j] = .str ws[j] t1 := by
      have := (List.getElem?_eq_some_iff.mp hu1).2
      simpa using this
    have e2 : its2.toArray[j] = .str ws[j] t2 := by
      have := (List.getElem?_eq_some_iff.mp hu2).2
      simpa using this
    rw [e1, e2]
    have := SeqAt.EqAt.str_str (A := X.A.in1) (s := s) ws[j] t1 ws[j] t2
    rwa [beq_self_eq_true] at this
  · rw [all_yes]
    have : (its.toArray.size == its2.toArray.size) = true := by simp [l1, l2]
    rw [this]; rfl
theorem cr_sumK {X : Cx} {K : PySem.W.Frag} (h : X.K = K) (hc : X.calm = true) : CallR X (.builtin "sum") (rSum K) := by subst h; exact cr_sum hc
end Kk
namespace K03
open PySem PySem.Spec PyProof.Rows L2 Kk RZ
abbrev s_def_of : Stmt := topS 7
theorem sc_def_of : FnScope ["program", "name", "one"] ["program", "name"] (defScope s_def_of) := ⟨rfl, rfl, rfl, by decide +kernel, rfl, by decide +kernel, by decide +kernel⟩
abbrev s_row_of : Stmt := topS 8
theorem sc_row_of : FnScope ["program", "name"] ["program", "name"] (defScope s_row_of) := ⟨rfl, rfl, rfl, by decide +kernel, rfl, by decide +kernel, by decide +kernel⟩
abbrev s_inner : Stmt := topS 19
theorem sc_inner : FnScope ["_law_word_here"] ["_law_word_here"] (defScope s_inner) := ⟨rfl, rfl, rfl, by decide +kernel, rfl, by decide +kernel, by decide +kernel⟩
abbrev s_many : Stmt := topS 20
abbrev n_many : List Str := ["_law_row_here", "_law_word_here", "_law_one"]
theorem sc_many : FnScope n_many ["_law_row_here"] (defScope s_many) := ⟨rfl, rfl, rfl, by decide +kernel, rfl, by decide +kernel, by decide +kernel⟩
/-- a program's parts -/
structure Pg (K : PySem.W.Frag) (H : Hp) (p q : Addr) (ds : List DfX) (main : List PyData) (xs : List V) (rv : V) : Prop where
  s : SqT K H p [.ref q, rv]
  t : SqT K H q xs
  d : TpAll K H xs (ds.map DfX.d)
  r : Tp K H rv (.tuple main)
theorem Pg.ex {K : PySem.W.Frag} {H H' : Hp} {p q : Addr} {ds : List DfX} {main : List PyData} {xs : List V} {rv : V} {as : List Addr} (h : Pg K H p q ds main xs rv) (e : Ex as H H') : Pg K H' p q ds main xs rv := ⟨e.seqT h.s, e.seqT h.t, h.d.ex e, h.r.ex e⟩
theorem pg_of {K : PySem.W.Frag} {H : Hp} {v : V} {ds : List DfX} {main : List PyData} (h : Tp K H v (progD ds main)) : ∃ p q xs rv, v = .ref p ∧ Pg K H p q ds main xs rv := by
  unfold progD at h
  cases h with
  | tup hs ha =>
    cases ha with
    | cons a1 a2 =>
      cases a2 with
      | cons b1 b2 =>
        cases b2
        cases a1 with
        | tup hs1 ha1 => exact ⟨_, _, _, _, rfl, hs, hs1, ha1, b1⟩
theorem Pg.at {K : PySem.W.Frag} {H : Hp} {p q : Addr} {ds : List DfX} {main : List PyData} {xs : List V} {rv : V} (h : Pg K H p q ds main xs rv) {i : Nat} {u : V} (e : xs[i]? = some u) :
    ∃ x o v2 v3 r, ds[i]? = some x ∧ u = .ref o ∧ SqT K H o [.str x.a, v2, v3, r] ∧ Tp K H r (.tuple x.ws) := by
  obtain ⟨d, hd, td⟩ := h.d.get e
  rw [List.getElem?_map] at hd
  cases hx : ds[i]? with
  | none => rw [hx] at hd; cases hd
  | some x =>
    rw [hx] at hd
    cases hd
    unfold DfX.d at td
    cases td with
    | tup hs ha =>
      cases ha with
      | cons a1 r1 =>
        cases a1
        cases r1 with
        | cons a2 r2 =>
          cases r2 with
          | cons a3 r3 =>
            cases r3 with
            | cons a4 r4 =>
              cases r4
              exact ⟨x, _, _, _, _, rfl, rfl, hs, a4⟩
section
variable {P : Program} {w : World} {K : PySem.W.Frag} {mg : Str → Option Value} {base : Heap}
def spDefOf (K : PySem.W.Frag) : Sp := fun vs H Q _ => ∃ (p q : Addr) (ds : List DfX) (main : List PyData) (xs : List V) (rv : V) (a : Str), vs = [.ref p, .str a] ∧ Pg K H p q ds main xs rv ∧
  ((∃ (i : Nat) (x : DfX) (u : V), ds[i]? = some x ∧ xs[i]? = some u ∧ x.a = a ∧ (∀ (j : Nat) (y : DfX), j < i → ds[j]? = some y → y.a ≠ a) ∧ Q u H) ∨ ((∀ x ∈ ds, x.a ≠ a) ∧ Q .non H))
theorem ok_def_of {f : Addr} {fd : FuncData} {k : Nat} (F : Fun K "def_of" "def_of" s_def_of f fd) : FnOk P w K mg base CX0 (k + 1) f fd ["program", "name"] (spDefOf K) := by
  refine F.ok sc_def_of (fun vs H Q E h => ?_) (fun cdv A outer s H vs Q E hr h => ?_)
  · obtain ⟨p, q, ds, main, xs, rv, a, rfl, _⟩ := h; rfl
  · obtain ⟨p, q, ds, main, xs, rv, a, rfl, hP, hq⟩ := h
    refine ⟨_, pss_cons (ps_for PassesOwn.never rfl (pi_tup (pe_ix ix_tup (pv 0) pe_int (fun _ _ => rfl))) (pg_name (i := 2) sc_def_of.nd rfl (.inl rfl))
      (pss_one (ps_if (pt_cmpR op_eq (pe_ix ix_tup (pv 2) pe_int (fun _ _ => rfl)) (pv 1) (nomark _)) (pss_one (ps_ret (pv 2))) pss_nil))) (pss_one (ps_ret pe_non)), ?_⟩
    refine ⟨.ref p, rfl, p, _, 0, _, rfl, rfl, hP.s, rfl, q, rfl, ⟨xs, hP.t⟩, for_tup (a := q) (xs := xs) (fun i σ H2 => ∃ y, σ = [some (.ref p), some (.str a), y] ∧ H2 = H ∧ ∀ (j : Nat) (y : DfX), j < i → ds[j]? = some y → y.a ≠ a) ?_ ?_ ?_ ?_⟩
    · exact ⟨_, rfl, rfl, fun j y hj => by omega⟩
    · rintro i σ H2 _ ⟨y, _, rfl, _⟩
      exact hP.t
    · rintro i u σ H2 hu ⟨y, rfl, rfl, hn⟩
      obtain ⟨x, o, v2, v3, r, hx, rfl, hs, hr'⟩ := hP.at hu
      refine ⟨.ref o, rfl, o, _, 0, _, rfl, rfl, hs, rfl, .str a, rfl, rfl, _, rfl, ?_⟩
      by_cases e : x.a = a
      · refine itD (congrArg V.str e) ?_
        rcases hq with ⟨i', x', u', h1, h2, h3, h4, h5⟩ | ⟨h1, _⟩
        · have ei : i' = i := by
            rcases Nat.lt_trichotomy i i' with z | z | z
            · exact absurd e (h4 i x z hx)
            · exact z.symm
            · exact absurd h3 (hn i' x' z h1)
          subst ei
          rw [hu] at h2; cases h2
          exact ⟨_, rfl, h5⟩
        · exact absurd e (h1 x (List.mem_of_getElem? hx))
      · refine itN (fun z => e (V.str.inj z)) ?_
        refine ⟨_, rfl, rfl, fun j y hj hy => ?_⟩
        rcases Nat.lt_succ_iff_lt_or_eq.mp hj with z | z
        · exact hn j y z hy
        · rw [z, hx] at hy; cases hy; exact e
    · rintro σ H2 ⟨y, rfl, rfl, hn⟩
      rcases hq with ⟨i', x', u', h1, h2, h3, h4, h5⟩ | ⟨_, h1⟩
      · exact absurd h3 (hn i' x' (List.getElem?_eq_some_iff.mp h2).1 h1)
      · exact h1
def spRowOf (K : PySem.W.Frag) : Sp := fun vs H Q _ => ∃ (p q : Addr) (ds : List DfX) (main : List PyData) (xs : List V) (rv : V) (a : Str), vs = [.ref p, .str a] ∧ Pg K H p q ds main xs rv ∧
  ((a = ("" : Str) ∧ Q rv H) ∨ (a ≠ ("" : Str) ∧ ∃ (i : Nat) (x : DfX) (o : Addr) (n2 n3 r : V), ds[i]? = some x ∧ xs[i]? = some (.ref o) ∧ x.a = a ∧ (∀ (j : Nat) (y : DfX), j < i → ds[j]? = some y → y.a ≠ a) ∧ SqT K H o [.str x.a, n2, n3, r] ∧ Q r H))
theorem ok_row_of {f fD : Addr} {fd fdD : FuncData} {k : Nat} (F : Fun K "row_of" "row_of" s_row_of f fd) (CD : Cl P w K mg base k "def_of" ["program", "name"] (spDefOf K) fD fdD) : FnOk P w K mg base CX0 (k + 1) f fd ["program", "name"] (spRowOf K) := by
  refine F.ok sc_row_of (fun vs H Q E h => ?_) (fun cdv A outer s H vs Q E hr h => ?_)
  · obtain ⟨p, q, ds, main, xs, rv, a, rfl, _⟩ := h; rfl
  · obtain ⟨p, q, ds, main, xs, rv, a, rfl, hP, hq⟩ := h
    refine ⟨_, pss_cons (ps_if (pt_cmpR op_eq (pv 1) pe_str (nomark _)) (pss_one (ps_ret (pe_ix ix_tup (pv 0) pe_int (fun _ _ => rfl)))) pss_nil)
      (pss_one (ps_ret (pe_ix ix_tup (pe_call CD.g hr (by rfl) CD.m CD.k CD.b .nil pass0 (pa_cons (pv 0) (pa_cons (pv 1) pa_nil))) pe_int (fun _ _ => rfl)))), ?_⟩
    refine ⟨.str a, rfl, rfl, _, rfl, ?_⟩
    rcases hq with ⟨e, h⟩ | ⟨e, i, x, o, n2, n3, r, h1, h2, h3, h4, h5, h6⟩
    · refine itD (congrArg V.str e) ?_
      exact ⟨.ref p, rfl, p, _, 1, _, rfl, rfl, hP.s, rfl, h⟩
    · refine itN (fun z => e (V.str.inj z)) ?_
      exact ⟨.ref p, rfl, .str a, rfl, p, q, ds, main, xs, rv, a, rfl, hP, .inl ⟨i, x, .ref o, h1, h2, h3, h4, o, _, 3, _, rfl, rfl, h5, rfl, h6⟩⟩
theorem ok_inner {f : Addr} {fd : FuncData} {k : Nat} (F : Fun K "_law_inner" "_law_inner" s_inner f fd) : FnOk P w K mg base CX0 (k + 1) f fd ["_law_word_here"] (spRowsOf K) := by
  refine F.ok sc_inner (fun vs H Q E h => ?_) (fun cdv A outer s H vs Q E hr h => ?_)
  · obtain ⟨v, wd, D, m, l, rfl, _⟩ := h; rfl
  · obtain ⟨v, wd, D, m, l, rfl, hT, hW, q⟩ := h
    refine ⟨_, pss_cons (ps_if (pt_cmpR op_eq (pe_ix ix_tup (pv 0) pe_int (fun _ _ => rfl)) pe_str (nomark _)) (pss_one (ps_ret (pe_ix ix_tup (pv 0) pe_int (fun _ _ => rfl)))) pss_nil)
      (pss_one (ps_ret (pe_ifExp (pt_cmpR op_eq (pe_ix ix_tup (pv 0) pe_int (fun _ _ => rfl)) pe_str (nomark _)) (pe_tup (pa_cons (pe_ix ix_tup (pv 0) pe_int (fun _ _ => rfl)) pa_nil)) (pe_tup pa_nil)))), ?_⟩
    rcases wd_rows hW with ⟨rs, rfl, hi⟩ | ⟨ws, rfl, hi⟩ | ⟨k0, ps, rfl, n1, n2, hi⟩
    · rw [hi] at q
      cases hT with
      | tup hs ha =>
        cases ha with
        | cons a1 a2 =>
          cases a1
          cases a2 with
          | cons b1 b2 =>
            cases b2
            refine ⟨_, rfl, _, _, 0, _, rfl, rfl, hs, rfl, rfl, _, rfl, itD rfl ?_⟩
            exact ⟨_, rfl, _, _, 1, _, rfl, rfl, hs, rfl, q H _ .refl b1⟩
    · rw [hi] at q
      cases hT with
      | tup hs ha =>
        cases ha with
        | cons a1 a2 =>
          cases a1
          cases a2 with
          | cons b1 b2 =>
            cases b2
            refine ⟨_, rfl, _, _, 0, _, rfl, rfl, hs, rfl, rfl, _, rfl, itN (fun e => absurd (V.str.inj e) (by decide +kernel)) ?_⟩
            refine ⟨_, rfl, _, _, 0, _, rfl, rfl, hs, rfl, rfl, _, rfl, itD rfl ?_⟩
            refine ⟨_, rfl, _, _, 1, _, rfl, rfl, hs, rfl, (by show 1 ≤ sizeLine; decide), fun p np => ?_⟩
            exact q _ _ (.new np) (Tp.new np (.cons b1 .nil))
    · rw [hi] at q
      cases hT with
      | tup hs ha =>
        cases ha with
        | cons a1 a2 =>
          cases a1
          refine ⟨_, rfl, _, _, 0, _, rfl, rfl, hs, atN (j := 0) rfl, rfl, _, rfl, itN (fun e => n1 (V.str.inj e)) ?_⟩
          refine ⟨_, rfl, _, _, 0, _, rfl, rfl, hs, atN (j := 0) rfl, rfl, _, rfl, itN (fun e => n2 (V.str.inj e)) ?_⟩
          refine ⟨(by show 0 ≤ sizeLine; decide), fun p np => ?_⟩
          exact q _ _ (.new np) (Tp.new np .nil)
end
end K03

set_option maxHeartbeats 8000000
namespace K03
open PySem PySem.Spec PyProof.Rows L2 Kk RZ
theorem sum_flat {α β : Type} (g : β → Int) (f : α → List β) : ∀ l : List α, ((l.flatMap f).map g).sum = (l.map fun x => ((f x).map g).sum).sum
  | [] => rfl
  | x :: l => by rw [List.flatMap_cons, List.map_append, List.sum_append, List.map_cons, List.sum_cons, sum_flat g f l]
abbrev scMw : Scope := { kind := ScopeKind.function, names := [(Str.ofString ".0", NameKind.local), (Str.ofString "_law_word_here", NameKind.local), (Str.ofString "sum", NameKind.globalImplicit), (Str.ofString "_law_inner", NameKind.globalImplicit)], isGenerator := false, isCoroutine := false }
def sI (n : Nat) (w : PyData) : Int := ((innD w).map (cntR n)).sum
theorem inn_zero {D : Dm} {l : Nat} {w : PyData} (h : Wd D 0 l w) : innD w = [] := by
  cases hi : innD w with
  | nil => rfl
  | cons r rs =>
    obtain ⟨m', _, z, _⟩ := (wd_inn h).2 r (by rw [hi]; exact List.mem_cons_self)
    omega
theorem cnt_split {D : Dm} {n l : Nat} {ws : List PyData} (h : ∀ w ∈ ws, Wd D n l w) : cntR n (.tuple ws) = (ws.length : Int) + (ws.map (sI (n - 1))).sum := by
  cases n with
  | zero =>
    have e : ws.map (sI (0 - 1)) = ws.map fun _ => 0 := List.map_congr_left fun w hw => by unfold sI; rw [inn_zero (h w hw)]; rfl
    rw [e]
    have z : (ws.map fun _ => (0 : Int)).sum = 0 := by
      clear h e
      induction ws with
      | nil => rfl
      | cons _ _ ih => rw [List.map_cons, List.sum_cons, ih]; rfl
    rw [z]
    show ([(ws.length : Int)]).sum = _
    simp
  | succ n =>
    show (((PyData.tuple ws) :: ws.flatMap fun w => (innD w).flatMap (allR n)).map lnI).sum = _
    rw [List.map_cons, List.sum_cons, sum_flat]
    congr 2
    refine List.map_congr_left fun w _ => ?_
    unfold sI
    rw [sum_flat]; rfl
section
variable {P : Program} {w : World} {K : PySem.W.Frag} {mg : Str → Option Value} {base : Heap}
def spMany (K : PySem.W.Frag) (n : Nat) : Sp := fun vs H Q _ => ∃ (v : V) (r : PyData) (D : Dm) (l : Nat), vs = [v] ∧ Tp K H v r ∧ Rw D 12 n l r ∧ ∀ H', Ex [] H H' → Q (.int (cntR n r)) H'
theorem ok_many {f fI fM : Addr} {fd fdI fdM : FuncData} {k n : Nat} {spM : Sp} (F : Fun K "_law_many" "_law_many" s_many f fd) (CI : Cl P w K mg base k "_law_inner" ["_law_word_here"] (spRowsOf K) fI fdI)
    (CM : Cl P w K mg base k "_law_many" ["_law_row_here"] spM fM fdM) (hM : ∀ m, n = m + 1 → spM = spMany K m) (m_len : mg "len" = none) (m_sum : mg "sum" = none) : FnOk P w K mg base CX0 (k + 1) f fd ["_law_row_here"] (spMany K n) := by
  refine F.ok sc_many (fun vs H Q E h => ?_) (fun cdv A outer s H vs Q E hr h => ?_)
  · obtain ⟨v, r, D, l, rfl, _⟩ := h; rfl
  · obtain ⟨v, r, D, l, rfl, hT, hR, q⟩ := h
    refine ⟨_, pss_one (ps_ret (pe_op op_add (pe_callB call_len_seq (by rfl) m_len PySem.boot_len (pa_cons (pv 0) pa_nil))
      (pe_callB (cr_sum rfl) (by rfl) m_sum (by decide +kernel) (pa_cons (pe_lc (own := [("_law_word_here", 1)]) (g := gName 1) (tt := tYes) rfl sc_many.nd (pi_tup (pv 0)) (blkOk_by (N := n_many) (sc := defScope s_many) (by decide +kernel))
        (fun _ _ _ _ _ => pg_name (i := 1) sc_many.nd rfl (Or.inl rfl)) (fun _ _ _ _ _ => pts_nil)
        (fun _ _ _ _ _ => pe_callB (cr_sumK (K := K) rfl rfl) (by rfl) m_sum (by decide +kernel) (pa_cons (pe_lc (own := [("_law_one", 2)]) (g := gName 2) (tt := tYes) rfl sc_many.nd
          (pi_tupK (K := K) rfl (pe_call CI.g hr (by rfl) CI.m CI.k CI.b .nil pass0 (pa_cons (pv 1) pa_nil))) (blkOk_by (N := n_many) (sc := scMw) (by decide +kernel))
          (fun _ _ _ _ _ => pg_name (i := 2) sc_many.nd rfl (Or.inl rfl)) (fun _ _ _ _ _ => pts_nil) (fun _ _ _ _ _ => pe_call CM.g hr (by rfl) CM.m CM.k CM.b .nil pass0 (pa_cons (pv 2) pa_nil))) pa_nil))) pa_nil)))), ?_⟩
    obtain ⟨ws, rfl, c12, hw⟩ := hR
    have sp := cnt_split hw
    cases hT with
    | tup hs ha =>
      rename_i a ts
      have hl := ha.len
      have sml : ∀ n : Nat, n ≤ 1000 → n < sizeLine := fun n h => Nat.lt_of_le_of_lt h (by decide)
      refine ⟨.ref a, rfl, a, ts, rfl, .inr hs, .ref a, rfl, a, rfl, ⟨ts, hs⟩, fun D1 n1 => ?_⟩
      obtain ⟨y1, hD1⟩ := nw (o := .lst []) n1
      refine lc_tup (a := a) (xs := ts) (fun i H2 => H2 D1 = some (.lst (((ws.take i).map (sI (n - 1))).map V.int)) ∧ Ex [D1] (upd H D1 (.lst [])) H2) ⟨hD1, .refl⟩ (fun i H2 _ h2 => h2.2.seqT (y1.seqT hs)) (fun i x H2 hx h2 => ?_) (fun H2 h2 => ?_)
      · obtain ⟨hD2, x2⟩ := h2
        obtain ⟨wd, hwd, tw⟩ := ha.get hx
        have hi : i < ws.length := (List.getElem?_eq_some_iff.mp hwd).1
        have hW := hw wd (List.mem_of_getElem? hwd)
        refine ⟨rfl, tyes_if ?_⟩
        refine ⟨x, rfl, x, wd, D, n, l, rfl, (tw.ex y1).ex x2, hW, fun H3 u x3 tu => ?_⟩
        cases tu with
        | tup hu hau =>
          rename_i b zs
          have lz := hau.len
          obtain ⟨l4, hin⟩ := wd_inn hW
          have hD3 := x3.lst hD2
          refine ⟨b, rfl, ⟨zs, hu⟩, fun D2 n2 => ?_⟩
          obtain ⟨y2, hE⟩ := nw (o := .lst []) n2
          have D12 : D1 ≠ D2 := ne_of_none hD3 n2
          refine lc_tup (a := b) (xs := zs) (fun j H4 => H4 D2 = some (.lst ((((innD wd).take j).map (cntR (n - 1))).map V.int)) ∧ Ex [D2] (upd H3 D2 (.lst [])) H4) ⟨hE, .refl⟩ (fun j H4 _ h4 => h4.2.seqT (y2.seqT hu)) (fun j x4 H4 hx4 h4 => ?_) (fun H4 h4 => ?_)
          · obtain ⟨hE4, x4'⟩ := h4
            obtain ⟨rd, hrd, tr⟩ := hau.get hx4
            obtain ⟨m', l', em, hr'⟩ := hin rd (List.mem_of_getElem? hrd)
            have e1 : n - 1 = m' := by omega
            refine ⟨rfl, tyes_if ?_⟩
            refine ⟨x4, rfl, ?_⟩
            rw [hM m' em]
            refine ⟨x4, rd, D, l', rfl, (tr.ex y2).ex x4', hr'.up (by decide), fun H5 x5 => ?_⟩
            have hE5 := x5.lst hE4
            have hj : j < (innD wd).length := (List.getElem?_eq_some_iff.mp hrd).1
            refine ⟨_, hE5, by rw [List.length_map, List.length_map, List.length_take]; exact sml _ (by omega), ?_⟩
            obtain ⟨z6, hE6⟩ := pw (o := .lst ((((innD wd).take j).map (cntR (n - 1))).map V.int ++ [.int (cntR m' rd)])) hE5
            refine ⟨?_, (x4'.trans x5.nil).trans z6⟩
            rw [hE6, List.take_add_one, hrd, e1]
            simp
          · obtain ⟨hE4, x4'⟩ := h4
            rw [lz, List.take_length] at hE4
            refine ⟨D2, _, rfl, .of hE4, ?_⟩
            have hD4 := x4'.lst (y2.lst hD3) (by simpa using D12)
            refine ⟨_, hD4, by rw [List.length_map, List.length_map, List.length_take]; exact sml _ (by omega), ?_⟩
            obtain ⟨z6, hD6⟩ := pw (o := .lst (((ws.take i).map (sI (n - 1))).map V.int ++ [.int ((innD wd).map (cntR (n - 1))).sum])) hD4
            refine ⟨?_, ?_⟩
            · rw [hD6, List.take_add_one, hwd]
              simp [sI]
            · have xa : Ex [D1] _ H3 := x2.trans x3.nil
              have xb : Ex [D1] _ H4 := Ex.own (xa.f D2 n2) (xa.trans y2.nil) (x4'.mono fun b hb => by simp at hb; simp [hb])
              exact xb.trans z6
      · obtain ⟨hD2, x2⟩ := h2
        rw [hl, List.take_length] at hD2
        refine ⟨D1, _, rfl, .of hD2, _, _, rfl, rfl, ?_⟩
        rw [hl]
        show Q (.int ((ws.length : Int) + (ws.map (sI (n - 1))).sum)) H2
        rw [← sp]
        exact q H2 (Ex.own n1 y1 x2)
end
end K03

set_option maxHeartbeats 8000000
namespace Kk
open PySem PySem.Spec PyProof.Rows L2
theorem PS.by {X : Cx} {st : Stmt} {t t' : TS} (h : PS X st t) (imp : ∀ D σ H, t' D σ H → t D σ H) : PS X st t' := ⟨fun pins s σ H D I q => h.run pins s σ H D I (imp D σ H q)⟩
theorem perm_flat2 {α β : Type} (f g : α → List β) : ∀ l : List α, (l.flatMap f ++ l.flatMap g).Perm (l.flatMap fun x => f x ++ g x)
  | [] => .refl _
  | x :: l => by
    rw [List.flatMap_cons, List.flatMap_cons, List.flatMap_cons]
    have ih := perm_flat2 f g l
    have e1 : (f x ++ l.flatMap f ++ (g x ++ l.flatMap g)).Perm (f x ++ (g x ++ (l.flatMap f ++ l.flatMap g))) := by
      rw [List.append_assoc]
      refine List.Perm.append_left _ ?_
      rw [← List.append_assoc, ← List.append_assoc]
      exact List.Perm.append_right _ List.perm_append_comm
    refine e1.trans ?_
    rw [List.append_assoc]
    exact List.Perm.append_left _ (List.Perm.append_left _ ih)
theorem take_flat {α β : Type} (f : α → List β) (l : List α) (i : Nat) : ((l.take i).flatMap f).length ≤ (l.flatMap f).length := by
  have : l.flatMap f = (l.take i).flatMap f ++ (l.drop i).flatMap f := by rw [← List.flatMap_append, List.take_append_drop]
  rw [this, List.length_append]; omega
end Kk
namespace K03
open PySem PySem.Spec PyProof.Rows L2 Kk RZ
abbrev s_lboxes : Stmt := topS 21
abbrev n_lboxes : List Str := ["_law_row_here", "_law_found", "_law_word_here", "_law_one"]
theorem sc_lboxes : FnScope n_lboxes ["_law_row_here"] (defScope s_lboxes) := ⟨rfl, rfl, rfl, by decide +kernel, rfl, by decide +kernel, by decide +kernel⟩
def g1V : List V := (["ask", "copy", "mix", "open", "tell", "wipe"].map Str.ofString).map V.str
def g2V : List V := (["take", "number"].map Str.ofString).map V.str
theorem box_of {k : Str} {ps : List PyData} {ks : List Str} (hf : frm k = ks) : boxD (.tuple (.str k :: ps)) = (ks.zip ps).flatMap stp := by
  show ((frm k).zip ps).flatMap stp = _
  rw [hf]
theorem stp_b (x : Str) : stp (Str.ofString "box", .str x) = [x] := by rw [stp_mk, if_pos rfl]; rfl
theorem stp_bs (xs : List Str) : stp (Str.ofString "boxes", tsL xs) = xs := by rw [stp_mk, if_neg (by decide +kernel), if_pos rfl]; exact tStr_map xs
theorem stp_w {p : PyData} : stp (Str.ofString "whole", p) = [] := by rw [stp_mk, if_neg (by decide +kernel), if_neg (by decide +kernel)]
theorem stp_rs {p : PyData} : stp (Str.ofString "rows", p) = [] := by rw [stp_mk, if_neg (by decide +kernel), if_neg (by decide +kernel)]
theorem stp_r {p : PyData} : stp (Str.ofString "row", p) = [] := by rw [stp_mk, if_neg (by decide +kernel), if_neg (by decide +kernel)]
def K1 (k : Str) (a b : Bool) : Prop := inV (.str k) g1V = a ∧ inV (.str k) g2V = b
/-- what the law looks at in a word -/
theorem wd_kinds {D : Dm} {m l : Nat} {w : PyData} (h : Wd D m l w) : ∃ k ps, w = .tuple (.str k :: ps) ∧
    ((K1 k true false ∧ k ≠ Str.ofString "drop" ∧ k ≠ Str.ofString "call" ∧ ∃ bs : List Str, ps = bs.map PyData.str ∧ boxD w = bs) ∨
     (K1 k false true ∧ k ≠ Str.ofString "drop" ∧ k ≠ Str.ofString "call" ∧ ∃ b p2, ps = [.str b, p2] ∧ boxD w = [b]) ∨
     (K1 k false false ∧ k = Str.ofString "drop" ∧ ∃ bs, ps = [tsL bs] ∧ boxD w = bs) ∨
     (K1 k false false ∧ k = Str.ofString "call" ∧ ∃ a xs ys, ps = [a, tsL xs, tsL ys] ∧ boxD w = xs ++ ys) ∨
     (K1 k false false ∧ k ≠ Str.ofString "drop" ∧ k ≠ Str.ofString "call" ∧ boxD w = [])) := by
  cases h with
  | @take _ _ x w => exact ⟨Str.ofString "take", _, rfl, .inr (.inl ⟨⟨by decide +kernel, by decide +kernel⟩, by decide +kernel, by decide +kernel, _, _, rfl, by rw [box_of (ks := ["box", "name"].map Str.ofString) (by decide +kernel)]; simp [stp_b, stp_name]⟩)⟩
  | @ask _ _ x => exact ⟨Str.ofString "ask", _, rfl, .inl ⟨⟨by decide +kernel, by decide +kernel⟩, by decide +kernel, by decide +kernel, [x], rfl, by rw [box_of (ks := ["box"].map Str.ofString) (by decide +kernel)]; simp [stp_b]⟩⟩
  | @number _ _ x i => exact ⟨Str.ofString "number", _, rfl, .inr (.inl ⟨⟨by decide +kernel, by decide +kernel⟩, by decide +kernel, by decide +kernel, _, _, rfl, by rw [box_of (ks := ["box", "whole"].map Str.ofString) (by decide +kernel)]; simp [stp_b, stp_w]⟩)⟩
  | @copy _ _ x y => exact ⟨Str.ofString "copy", _, rfl, .inl ⟨⟨by decide +kernel, by decide +kernel⟩, by decide +kernel, by decide +kernel, [x, y], rfl, by rw [box_of (ks := ["box", "box"].map Str.ofString) (by decide +kernel)]; simp [stp_b]⟩⟩
  | @mix _ _ x y z => exact ⟨Str.ofString "mix", _, rfl, .inl ⟨⟨by decide +kernel, by decide +kernel⟩, by decide +kernel, by decide +kernel, [x, y, z], rfl, by rw [box_of (ks := ["box", "box", "box"].map Str.ofString) (by decide +kernel)]; simp [stp_b]⟩⟩
  | @opens _ _ x y => exact ⟨Str.ofString "open", _, rfl, .inl ⟨⟨by decide +kernel, by decide +kernel⟩, by decide +kernel, by decide +kernel, [x, y], rfl, by rw [box_of (ks := ["box", "box"].map Str.ofString) (by decide +kernel)]; simp [stp_b]⟩⟩
  | @tell _ _ x => exact ⟨Str.ofString "tell", _, rfl, .inl ⟨⟨by decide +kernel, by decide +kernel⟩, by decide +kernel, by decide +kernel, [x], rfl, by rw [box_of (ks := ["box"].map Str.ofString) (by decide +kernel)]; simp [stp_b]⟩⟩
  | @wipe _ _ x => exact ⟨Str.ofString "wipe", _, rfl, .inl ⟨⟨by decide +kernel, by decide +kernel⟩, by decide +kernel, by decide +kernel, [x], rfl, by rw [box_of (ks := ["box"].map Str.ofString) (by decide +kernel)]; simp [stp_b]⟩⟩
  | clear => exact ⟨Str.ofString "clear", _, rfl, .inr (.inr (.inr (.inr ⟨⟨by decide +kernel, by decide +kernel⟩, by decide +kernel, by decide +kernel, by rw [box_of (ks := ["name"].map Str.ofString) (by decide +kernel)]; simp [stp_name]⟩)))⟩
  | @drop _ _ xs => exact ⟨Str.ofString "drop", _, rfl, .inr (.inr (.inl ⟨⟨by decide +kernel, by decide +kernel⟩, rfl, xs, rfl, by rw [box_of (ks := ["boxes"].map Str.ofString) (by decide +kernel)]; simp [stp_bs]⟩))⟩
  | risk => exact ⟨Str.ofString "risk", _, rfl, .inr (.inr (.inr (.inr ⟨⟨by decide +kernel, by decide +kernel⟩, by decide +kernel, by decide +kernel, by rw [box_of (ks := ["name"].map Str.ofString) (by decide +kernel)]; simp [stp_name]⟩)))⟩
  | fault => exact ⟨Str.ofString "fault", _, rfl, .inr (.inr (.inr (.inr ⟨⟨by decide +kernel, by decide +kernel⟩, by decide +kernel, by decide +kernel, by rw [box_of (ks := ["name"].map Str.ofString) (by decide +kernel)]; simp [stp_name]⟩)))⟩
  | back => exact ⟨Str.ofString "back", _, rfl, .inr (.inr (.inr (.inr ⟨⟨by decide +kernel, by decide +kernel⟩, by decide +kernel, by decide +kernel, by rw [box_of (ks := []) (by decide +kernel)]; rfl⟩)))⟩
  | out => exact ⟨Str.ofString "out", _, rfl, .inr (.inr (.inr (.inr ⟨⟨by decide +kernel, by decide +kernel⟩, by decide +kernel, by decide +kernel, by rw [box_of (ks := ["whole"].map Str.ofString) (by decide +kernel)]; simp [stp_w]⟩)))⟩
  | @call _ _ a xs ys => exact ⟨Str.ofString "call", _, rfl, .inr (.inr (.inr (.inl ⟨⟨by decide +kernel, by decide +kernel⟩, rfl, _, xs, ys, rfl, by rw [box_of (ks := ["name", "boxes", "boxes"].map Str.ofString) (by decide +kernel)]; simp [stp_bs, stp_name]⟩)))⟩
  | choose => exact ⟨Str.ofString "choose", _, rfl, .inr (.inr (.inr (.inr ⟨⟨by decide +kernel, by decide +kernel⟩, by decide +kernel, by decide +kernel, by rw [box_of (ks := ["rows"].map Str.ofString) (by decide +kernel)]; simp [stp_rs]⟩)))⟩
  | loop => exact ⟨Str.ofString "loop", _, rfl, .inr (.inr (.inr (.inr ⟨⟨by decide +kernel, by decide +kernel⟩, by decide +kernel, by decide +kernel, by rw [box_of (ks := ["row"].map Str.ofString) (by decide +kernel)]; simp [stp_r]⟩)))⟩
def gB (n : Nat) (w : PyData) : List Str := boxD w ++ (innD w).flatMap (bxAll n)
theorem bx_perm {D : Dm} {n l : Nat} {ws : List PyData} (h : ∀ w ∈ ws, Wd D n l w) : (ws.flatMap (gB (n - 1))).Perm (bxAll n (.tuple ws)) := by
  have p := (perm_flat2 boxD (fun w => (innD w).flatMap (bxAll (n - 1))) ws).symm
  refine List.Perm.trans p ?_
  cases n with
  | zero =>
    have e : (ws.flatMap fun w => (innD w).flatMap (bxAll (0 - 1))) = [] := List.flatMap_eq_nil_iff.mpr fun w hw => by rw [inn_zero (h w hw)]; rfl
    rw [e, List.append_nil]
    show (ws.flatMap boxD).Perm (bxR (.tuple ws) ++ [])
    rw [List.append_nil]; exact .refl _
  | succ n =>
    show (ws.flatMap boxD ++ ws.flatMap fun w => (innD w).flatMap (bxAll n)).Perm (bxR (.tuple ws) ++ (ws.flatMap fun w => (innD w).flatMap (allR n)).flatMap bxR)
    have e : (ws.flatMap fun w => (innD w).flatMap (allR n)).flatMap bxR = ws.flatMap fun w => (innD w).flatMap (bxAll n) := by
      rw [List.flatMap_assoc]
      congr 1
      funext w
      rw [List.flatMap_assoc]; rfl
    rw [e]; exact .refl _
theorem bx_big {D : Dm} {n l : Nat} {r : PyData} (hn : n ≤ 4) (h6 : D.boxes.length = 6) (h : Rw D 12 n l r) : (bxAll n r).length ≤ 14400000 := by
  have := flat_le bxR 144 (allR n r) fun x hx => by
    obtain ⟨m', l', _, ws, rfl, c, hw⟩ := all_rw n 12 l r (by decide) h x hx
    exact bxR_le h6 c hw
  have b := all_big hn h
  exact Nat.le_trans this (Nat.le_trans (Nat.mul_le_mul_right 144 b) (by decide))
end K03

set_option maxHeartbeats 8000000
namespace Kk
open PySem PySem.Spec PyProof.Rows L2
theorem TpAll.strs_inv {K : PySem.W.Frag} {H : Hp} : ∀ {xs : List Str} {zs : List V}, TpAll K H zs (xs.map PyData.str) → zs = xs.map V.str
  | [], _, h => by cases h; rfl
  | x :: xs, _, h => by
    cases h with
    | cons a b => cases a; rw [TpAll.strs_inv b]; rfl
end Kk
namespace K03
open PySem PySem.Spec PyProof.Rows L2 Kk RZ
section
variable {P : Program} {w : World} {K : PySem.W.Frag} {mg : Str → Option Value} {base : Heap}
def spLBoxes (K : PySem.W.Frag) (n : Nat) : Sp := fun vs H Q _ => ∃ (v : V) (r : PyData) (D : Dm) (l : Nat), vs = [v] ∧ Tp K H v r ∧ Rw D 12 n l r ∧ n ≤ 4 ∧ D.boxes.length = 6 ∧
  ∀ (H' : Hp) (p : Addr) (L : List Str), H p = none → Ex [] H H' → H' p = some (.lst (L.map V.str)) → L.Perm (bxAll n r) → Q (.ref p) H'
def tIn (K : PySem.W.Frag) (D : Dm) (n l : Nat) : TS := fun E σ H => ∃ (v : V) (F : Addr) (L : List Str) (wv : V) (y3 : Option V) (wd : PyData), σ = [some v, some (.ref F), some wv, y3] ∧ H F = some (.lst (L.map V.str)) ∧ Tp K H wv wd ∧ Wd D n l wd ∧
  L.length + ((innD wd).flatMap (bxAll (n - 1))).length ≤ sizeLine ∧
  ∀ (F' : Addr) (H' : Hp) (L' : List Str) (y3' : Option V), (F' = F ∨ H F' = none) → Ex [] H H' → H' F' = some (.lst (L'.map V.str)) → L'.Perm (L ++ (innD wd).flatMap (bxAll (n - 1))) → E.nx [some v, some (.ref F'), some wv, y3'] H'
theorem ok_lboxes {f fI fB : Addr} {fd fdI fdB : FuncData} {k n : Nat} {spB : Sp} (F : Fun K "_law_boxes" "_law_boxes" s_lboxes f fd) (CI : Cl P w K mg base k "_law_inner" ["_law_word_here"] (spRowsOf K) fI fdI)
    (CB : Cl P w K mg base k "_law_boxes" ["_law_row_here"] spB fB fdB) (hB : ∀ m, n = m + 1 → spB = spLBoxes K m) (m_list : mg "list" = none) : FnOk P w K mg base CX0 (k + 1) f fd ["_law_row_here"] (spLBoxes K n) := by
  refine F.ok sc_lboxes (fun vs H Q E h => ?_) (fun cdv A outer s H vs Q E hr h => ?_)
  · obtain ⟨v, r, D, l, rfl, _⟩ := h; rfl
  · obtain ⟨v, r, D, l, rfl, hT, hR, hn, h6, q⟩ := h
    have big := bx_big hn h6 hR
    refine ⟨_, pss_cons (ps_set (i := 1) sc_lboxes.nd rfl (.inl rfl) (pe_lst pa_nil))
      (pss_cons (ps_for PassesOwn.never rfl (pi_tup (pv 0)) (pg_name (i := 2) sc_lboxes.nd rfl (.inl rfl))
        (pss_cons (ps_if (pt_cmpR op_in_seq (pe_ix ix_tup (pv 2) pe_int (fun _ _ => rfl)) (pe_tup (pa_cons pe_str (pa_cons pe_str (pa_cons pe_str (pa_cons pe_str (pa_cons pe_str (pa_cons pe_str pa_nil))))))) rfl) (pss_one (ps_set (i := 1) sc_lboxes.nd rfl (.inl rfl) (pe_op op_cat (pv 1) (pe_callTy call_list_of (by rfl) m_list (by decide +kernel) (pa_cons (pe_slice sl_tupA (pv 2) (po_some pe_int) po_none) pa_nil))))) pss_nil)
        (pss_cons (ps_if (pt_cmpR op_in_seq (pe_ix ix_tup (pv 2) pe_int (fun _ _ => rfl)) (pe_tup (pa_cons pe_str (pa_cons pe_str pa_nil))) rfl) (pss_one (ps_expr (pe_bm PySem.F.plainAttrs_list PySem.F.slot_list_append PySem.F.type_list_append mt_append (pv 1) (pa_cons (pe_ix ix_tup (pv 2) pe_int (fun _ _ => rfl)) pa_nil)))) pss_nil)
        (pss_cons (ps_if (pt_cmpR op_eq (pe_ix ix_tup (pv 2) pe_int (fun _ _ => rfl)) pe_str (nomark _)) (pss_one (ps_set (i := 1) sc_lboxes.nd rfl (.inl rfl) (pe_op op_cat (pv 1) (pe_callTy call_list_of (by rfl) m_list (by decide +kernel) (pa_cons (pe_ix ix_tup (pv 2) pe_int (fun _ _ => rfl)) pa_nil))))) pss_nil)
        (pss_cons (ps_if (pt_cmpR op_eq (pe_ix ix_tup (pv 2) pe_int (fun _ _ => rfl)) pe_str (nomark _)) (pss_one (ps_set (i := 1) sc_lboxes.nd rfl (.inl rfl) (pe_op op_cat (pe_op op_cat (pv 1) (pe_callTy call_list_of (by rfl) m_list (by decide +kernel) (pa_cons (pe_ix ix_tup (pv 2) pe_int (fun _ _ => rfl)) pa_nil))) (pe_callTy call_list_of (by rfl) m_list (by decide +kernel) (pa_cons (pe_ix ix_tup (pv 2) pe_int (fun _ _ => rfl)) pa_nil))))) pss_nil)
        (pss_one (PS.by (t' := tIn K D n l) (ps_for PassesOwn.never rfl (pi_tup (pe_call CI.g hr (by rfl) CI.m CI.k CI.b .nil pass0 (pa_cons (pv 2) pa_nil))) (pg_name (i := 3) sc_lboxes.nd rfl (.inl rfl))
          (pss_one (ps_set (i := 1) sc_lboxes.nd rfl (.inl rfl) (pe_op op_cat (pv 1) (pe_call CB.g hr (by rfl) CB.m CB.k CB.b .nil pass0 (pa_cons (pv 3) pa_nil)))))) ?_)))))))
      (pss_one (ps_ret (pv 1)))), ?_⟩
    · intro E' σ' H' h'
      obtain ⟨v, F, L, wv, y3, wd, rfl, hF, hw, hW, lb, fin⟩ := h'
      refine ⟨wv, rfl, wv, wd, D, n, l, rfl, hw, hW, fun H1 u x1 tu => ?_⟩
      cases tu with
      | tup hu hau =>
        rename_i b zs
        have lz := hau.len
        obtain ⟨l4, hin⟩ := wd_inn hW
        refine ⟨b, rfl, ⟨zs, hu⟩, for_tup (a := b) (xs := zs) (fun j σ H2 => ∃ (F2 : Addr) (L2 : List Str) (y3 : Option V), σ = [some v, some (.ref F2), some wv, y3] ∧ (F2 = F ∨ H' F2 = none) ∧ H2 F2 = some (.lst (L2.map V.str)) ∧ L2.Perm (L ++ ((innD wd).take j).flatMap (bxAll (n - 1))) ∧ Ex [] H1 H2) ?_ ?_ ?_ ?_⟩
        · exact ⟨F, L, _, rfl, .inl rfl, x1.lst hF, by simp, .refl⟩
        · rintro j σ H2 _ ⟨_, _, _, _, _, _, _, x2⟩
          exact x2.seqT hu
        · rintro j x4 σ H2 hx4 ⟨F2, L2, y3', rfl, nF, hF2, pm, x2⟩
          obtain ⟨rd, hrd, tr⟩ := hau.get hx4
          obtain ⟨m', l', em, hr'⟩ := hin rd (List.mem_of_getElem? hrd)
          have e1 : n - 1 = m' := by omega
          refine ⟨.ref F2, rfl, x4, rfl, ?_⟩
          rw [hB m' em]
          refine ⟨x4, rd, D, l', rfl, tr.ex x2, hr'.up (by decide), by omega, h6, fun H5 p5 L5 np x5 hp5 pm5 => ?_⟩
          have et : ((innD wd).take (j + 1)).flatMap (bxAll (n - 1)) = ((innD wd).take j).flatMap (bxAll (n - 1)) ++ bxAll m' rd := by
            rw [List.take_add_one, hrd, List.flatMap_append, e1]; simp
          have ll : L2.length + L5.length ≤ sizeLine := by
            have a1 := pm.length_eq
            have a2 := pm5.length_eq
            have a3 := take_flat (bxAll (n - 1)) (innD wd) (j + 1)
            rw [et, List.length_append] at a3
            rw [List.length_append] at a1
            omega
          refine ⟨F2, p5, _, _, rfl, rfl, x5.lst hF2, hp5, by rw [List.length_map, List.length_map]; exact ll, fun G nG => ?_⟩
          obtain ⟨yG, hG⟩ := nw (o := .lst (L2.map V.str ++ L5.map V.str)) nG
          refine ⟨G, L2 ++ L5, _, rfl, .inr ((x1.trans (x2.trans x5)).f G nG), by rw [hG, List.map_append], ?_, (x2.trans x5).trans yG⟩
          rw [et, ← List.append_assoc]
          exact (pm.append pm5)
        · rintro σ H2 ⟨F2, L2, y3', rfl, nF, hF2, pm, x2⟩
          rw [lz, List.take_length] at pm
          exact fin F2 H2 L2 _ nF (x1.trans x2) hF2 pm
    obtain ⟨ws, rfl, c12, hw⟩ := hR
    have bp := bx_perm hw
    have bpl := bp.length_eq
    cases hT with
    | tup hv hav =>
      rename_i av ts
      have hl := hav.len
      have sml : ∀ n : Nat, n ≤ 14500000 → n < sizeLine := fun n h => Nat.lt_of_le_of_lt h (by decide)
      have szl : sizeLine = 16777216 := sizeLine_eq
      refine ⟨(by show 0 ≤ sizeLine; decide), fun F0 nF0 => ?_⟩
      obtain ⟨y0, hF0⟩ := nw (o := .lst []) nF0
      refine ⟨.ref av, rfl, av, rfl, ⟨ts, y0.seqT hv⟩, for_tup (a := av) (xs := ts) (fun i σ H2 => ∃ (F : Addr) (L : List Str) (y2 y3 : Option V), σ = [some (.ref av), some (.ref F), y2, y3] ∧ H F = none ∧ H2 F = some (.lst (L.map V.str)) ∧ L.Perm ((ws.take i).flatMap (gB (n - 1))) ∧ Ex [] H H2) ?_ ?_ ?_ ?_⟩
      · exact ⟨F0, [], _, _, rfl, nF0, hF0, .refl _, y0⟩
      · rintro i σ H2 _ ⟨_, _, _, _, _, _, _, _, x2⟩
        exact x2.seqT hv
      · rintro i x σ H2 hx ⟨F, L, y2, y3, rfl, nF, hF, pm, x2⟩
        have x02 := x2
        obtain ⟨wd, hwd, tw⟩ := hav.get hx
        have hi : i < ws.length := (List.getElem?_eq_some_iff.mp hwd).1
        have hW := hw wd (List.mem_of_getElem? hwd)
        have et : (ws.take (i + 1)).flatMap (gB (n - 1)) = (ws.take i).flatMap (gB (n - 1)) ++ gB (n - 1) wd := by
          rw [List.take_add_one, hwd, List.flatMap_append]; simp
        have ltot : L.length + (boxD wd).length + ((innD wd).flatMap (bxAll (n - 1))).length ≤ 14400000 := by
          have a1 := pm.length_eq
          have a3 := take_flat (gB (n - 1)) ws (i + 1)
          rw [et, List.length_append] at a3
          have a4 : (gB (n - 1) wd).length = (boxD wd).length + ((innD wd).flatMap (bxAll (n - 1))).length := List.length_append
          omega
        have tw2 := tw.ex x2
        obtain ⟨k0, ps, rfl, hk⟩ := wd_kinds hW
        cases tw with
        | tup hs ha =>
          rename_i a xs
          cases ha with
          | cons a1 arest =>
          cases a1
          rename_i rest
          have mid : ∀ (F' : Addr) (H' : Hp) (L' : List Str) (y3 : Option V), H F' = none → Ex [F] H2 H' → H' F' = some (.lst (L'.map V.str)) → SqT K H' a (.str k0 :: rest) → L' = L ++ boxD (.tuple (.str k0 :: ps)) →
              tIn K D n l { nx := fun σ H2 => ∃ (F : Addr) (L : List Str) (y2 y3 : Option V), σ = [some (.ref av), some (.ref F), y2, y3] ∧ H F = none ∧ H2 F = some (.lst (L.map V.str)) ∧ L.Perm ((ws.take (i + 1)).flatMap (gB (n - 1))) ∧ Ex [] H H2, rt := Q } [some (.ref av), some (.ref F'), some (.ref a), y3] H' := fun F' H' L' y3 nF' x' hF' hs' eL => by
            refine ⟨.ref av, F', L', .ref a, _, _, rfl, hF', tw2.ex x', hW, by rw [eL, List.length_append]; omega, fun F'' H'' L'' y3'' nF'' x'' hF'' pm'' => ⟨F'', L'', _, _, rfl, ?_, hF'', ?_, (Ex.own nF Ex.refl (x02.nil.trans x')).trans x''⟩⟩
            · rcases nF'' with z | z
              · rw [z]; exact nF'
              · exact (Ex.own nF Ex.refl (x02.nil.trans x')).f F'' z
            · rw [et]
              refine pm''.trans ?_
              rw [eL]
              show ((L ++ _) ++ _).Perm (_ ++ (_ ++ _))
              rw [List.append_assoc]
              exact pm.append (.refl _)
          rcases hk with ⟨⟨i1, i2⟩, n3, n4, bs, eps, hbx⟩ | ⟨⟨i1, i2⟩, n3, n4, b, p2, eps, hbx⟩ | ⟨⟨i1, i2⟩, e3, bs, eps, hbx⟩ | ⟨⟨i1, i2⟩, e4, a0, bs1, bs2, eps, hbx⟩ | ⟨⟨i1, i2⟩, n3, n4, hbx⟩
          · subst eps
            have erest := arest.strs_inv
            rw [hbx] at ltot
            have hs := x2.seqT hs
            have xx : Ex [] H2 H2 := .refl
            refine ⟨.ref a, rfl, a, _, 0, _, rfl, rfl, hs, atN (j := 0) rfl, (by show 6 ≤ sizeLine; decide), fun t1 nt1 => ?_⟩
            obtain ⟨yt1, ht1⟩ := nw (o := .tup g1V) nt1
            have hs := yt1.seqT hs
            have hF := yt1.lst hF
            have xx := xx.trans yt1
            refine ⟨t1, g1V, rfl, .inr (.of ht1), rfl, rfl, _, rfl, ite2 (fun _ => ?_) (fun e => absurd (show inV (.str k0) g1V = true from i1) e)⟩
            refine ⟨.ref F, rfl, .ref a, rfl, 1, rfl, a, _, rfl, hs, fun z => absurd z one_cut, fun _ B nB => ?_⟩
            rw [cut_one]
            obtain ⟨yB, hB⟩ := nw (o := .tup rest) nB
            have hs := yB.seqT hs
            have hF := yB.lst hF
            have xx := xx.trans yB
            refine ⟨B, rest, rfl, .inr (.of hB), fun M nM => ?_⟩
            obtain ⟨yM, hM⟩ := nw (o := .lst rest) nM
            have hs := yM.seqT hs
            have hF := yM.lst hF
            have xx := xx.trans yM
            refine ⟨F, M, _, _, rfl, rfl, hF, hM, by rw [List.length_map, erest, List.length_map]; omega, fun G nG => ?_⟩
            have nF : H G = none := x02.f G (xx.f G nG)
            obtain ⟨yG, hG⟩ := nw (o := .lst (L.map V.str ++ rest)) nG
            have hs := yG.seqT hs
            have xx := xx.trans yG
            have hF := hG.trans (show some (HO.lst (L.map V.str ++ rest)) = some (HO.lst ((L ++ bs).map V.str)) by rw [List.map_append, erest])
            refine ⟨.ref a, rfl, a, _, 0, _, rfl, rfl, hs, atN (j := 0) rfl, (by show 2 ≤ sizeLine; decide), fun t2 nt2 => ?_⟩
            obtain ⟨yt2, ht2⟩ := nw (o := .tup g2V) nt2
            have hs := yt2.seqT hs
            have hF := yt2.lst hF
            have xx := xx.trans yt2
            refine ⟨t2, g2V, rfl, .inr (.of ht2), rfl, rfl, _, rfl, ite2 (fun e => absurd (show inV (.str k0) g2V = true from e) (by rw [i2]; decide)) (fun _ => ?_)⟩
            refine ⟨.ref a, rfl, a, _, 0, _, rfl, rfl, hs, atN (j := 0) rfl, rfl, _, rfl, itN (fun e => n3 (V.str.inj e)) ?_⟩
            refine ⟨.ref a, rfl, a, _, 0, _, rfl, rfl, hs, atN (j := 0) rfl, rfl, _, rfl, itN (fun e => n4 (V.str.inj e)) ?_⟩
            exact mid G _ (L ++ bs) _ nF xx.nil hF hs (by rw [hbx])
          · subst eps
            rw [hbx] at ltot
            cases arest with
            | cons b1 b2 =>
            cases b1
            cases b2 with
            | cons b3 b4 =>
            cases b4
            have hs := x2.seqT hs
            have xx : Ex [] H2 H2 := .refl
            refine ⟨.ref a, rfl, a, _, 0, _, rfl, rfl, hs, atN (j := 0) rfl, (by show 6 ≤ sizeLine; decide), fun t1 nt1 => ?_⟩
            obtain ⟨yt1, ht1⟩ := nw (o := .tup g1V) nt1
            have hs := yt1.seqT hs
            have hF := yt1.lst hF
            have xx := xx.trans yt1
            refine ⟨t1, g1V, rfl, .inr (.of ht1), rfl, rfl, _, rfl, ite2 (fun e => absurd (show inV (.str k0) g1V = true from e) (by rw [i1]; decide)) (fun _ => ?_)⟩
            refine ⟨.ref a, rfl, a, _, 0, _, rfl, rfl, hs, atN (j := 0) rfl, (by show 2 ≤ sizeLine; decide), fun t2 nt2 => ?_⟩
            obtain ⟨yt2, ht2⟩ := nw (o := .tup g2V) nt2
            have hs := yt2.seqT hs
            have hF := yt2.lst hF
            have xx := xx.trans yt2
            refine ⟨t2, g2V, rfl, .inr (.of ht2), rfl, rfl, _, rfl, ite2 (fun _ => ?_) (fun e => absurd (show inV (.str k0) g2V = true from i2) e)⟩
            refine ⟨.ref F, rfl, .inl ⟨rfl, _, .of hF⟩, .ref a, rfl, a, _, 1, _, rfl, rfl, hs, rfl, F, _, _, rfl, rfl, hF, by rw [List.length_map]; exact sml _ (by omega), ?_⟩
            obtain ⟨yG, hG⟩ := pw (o := .lst (L.map V.str ++ [.str b])) hF
            have hs := yG.seqT hs
            have hF := hG.trans (show some (HO.lst (L.map V.str ++ [.str b])) = some (HO.lst ((L ++ [b]).map V.str)) by rw [List.map_append]; rfl)
            have xx := xx.nil.trans yG
            refine ⟨.ref a, rfl, a, _, 0, _, rfl, rfl, hs, atN (j := 0) rfl, rfl, _, rfl, itN (fun e => n3 (V.str.inj e)) ?_⟩
            refine ⟨.ref a, rfl, a, _, 0, _, rfl, rfl, hs, atN (j := 0) rfl, rfl, _, rfl, itN (fun e => n4 (V.str.inj e)) ?_⟩
            exact mid F _ (L ++ [b]) _ nF xx hF hs (by rw [hbx])
          · subst eps
            rw [hbx] at ltot
            have n4 : k0 ≠ Str.ofString "call" := by rw [e3]; decide +kernel
            cases arest with
            | cons c1 c2 =>
            cases c2
            cases c1 with
            | tup hb1 hz1 =>
            rename_i b1 zs1
            have ez1 := hz1.strs_inv
            have hs := x2.seqT hs
            have xx : Ex [] H2 H2 := .refl
            refine ⟨.ref a, rfl, a, _, 0, _, rfl, rfl, hs, atN (j := 0) rfl, (by show 6 ≤ sizeLine; decide), fun t1 nt1 => ?_⟩
            obtain ⟨yt1, ht1⟩ := nw (o := .tup g1V) nt1
            have hs := yt1.seqT hs
            have hF := yt1.lst hF
            have xx := xx.trans yt1
            refine ⟨t1, g1V, rfl, .inr (.of ht1), rfl, rfl, _, rfl, ite2 (fun e => absurd (show inV (.str k0) g1V = true from e) (by rw [i1]; decide)) (fun _ => ?_)⟩
            refine ⟨.ref a, rfl, a, _, 0, _, rfl, rfl, hs, atN (j := 0) rfl, (by show 2 ≤ sizeLine; decide), fun t2 nt2 => ?_⟩
            obtain ⟨yt2, ht2⟩ := nw (o := .tup g2V) nt2
            have hs := yt2.seqT hs
            have hF := yt2.lst hF
            have xx := xx.trans yt2
            refine ⟨t2, g2V, rfl, .inr (.of ht2), rfl, rfl, _, rfl, ite2 (fun e => absurd (show inV (.str k0) g2V = true from e) (by rw [i2]; decide)) (fun _ => ?_)⟩
            refine ⟨.ref a, rfl, a, _, 0, _, rfl, rfl, hs, atN (j := 0) rfl, rfl, _, rfl, itD (congrArg V.str e3) ?_⟩
            refine ⟨.ref F, rfl, .ref a, rfl, a, _, 1, _, rfl, rfl, hs, rfl, b1, _, rfl, .inr (xx.seqT (x2.seqT hb1)), fun M nM => ?_⟩
            obtain ⟨yM, hM⟩ := nw (o := .lst zs1) nM
            have hs := yM.seqT hs
            have hF := yM.lst hF
            have xx := xx.trans yM
            refine ⟨F, M, _, _, rfl, rfl, hF, hM, by rw [List.length_map, ez1, List.length_map]; omega, fun G nG => ?_⟩
            have nF : H G = none := x02.f G (xx.f G nG)
            obtain ⟨yG, hG⟩ := nw (o := .lst (L.map V.str ++ zs1)) nG
            have hs := yG.seqT hs
            have xx := xx.trans yG
            have hF := hG.trans (show some (HO.lst (L.map V.str ++ zs1)) = some (HO.lst ((L ++ bs).map V.str)) by rw [List.map_append, ez1])
            refine ⟨.ref a, rfl, a, _, 0, _, rfl, rfl, hs, atN (j := 0) rfl, rfl, _, rfl, itN (fun e => n4 (V.str.inj e)) ?_⟩
            exact mid G _ (L ++ bs) _ nF xx.nil hF hs (by rw [hbx])
          · subst eps
            rw [hbx, List.length_append] at ltot
            have n3 : k0 ≠ Str.ofString "drop" := by rw [e4]; decide +kernel
            cases arest with
            | cons c1 c2 =>
            cases c2 with
            | cons d1 d2 =>
            cases d2 with
            | cons f1 f2 =>
            cases f2
            cases d1 with
            | tup hb1 hz1 =>
            rename_i b1 zs1
            cases f1 with
            | tup hb2 hz2 =>
            rename_i b2 zs2
            have ez1 := hz1.strs_inv
            have ez2 := hz2.strs_inv
            have hs := x2.seqT hs
            have xx : Ex [] H2 H2 := .refl
            refine ⟨.ref a, rfl, a, _, 0, _, rfl, rfl, hs, atN (j := 0) rfl, (by show 6 ≤ sizeLine; decide), fun t1 nt1 => ?_⟩
            obtain ⟨yt1, ht1⟩ := nw (o := .tup g1V) nt1
            have hs := yt1.seqT hs
            have hF := yt1.lst hF
            have xx := xx.trans yt1
            refine ⟨t1, g1V, rfl, .inr (.of ht1), rfl, rfl, _, rfl, ite2 (fun e => absurd (show inV (.str k0) g1V = true from e) (by rw [i1]; decide)) (fun _ => ?_)⟩
            refine ⟨.ref a, rfl, a, _, 0, _, rfl, rfl, hs, atN (j := 0) rfl, (by show 2 ≤ sizeLine; decide), fun t2 nt2 => ?_⟩
            obtain ⟨yt2, ht2⟩ := nw (o := .tup g2V) nt2
            have hs := yt2.seqT hs
            have hF := yt2.lst hF
            have xx := xx.trans yt2
            refine ⟨t2, g2V, rfl, .inr (.of ht2), rfl, rfl, _, rfl, ite2 (fun e => absurd (show inV (.str k0) g2V = true from e) (by rw [i2]; decide)) (fun _ => ?_)⟩
            refine ⟨.ref a, rfl, a, _, 0, _, rfl, rfl, hs, atN (j := 0) rfl, rfl, _, rfl, itN (fun e => n3 (V.str.inj e)) ?_⟩
            refine ⟨.ref a, rfl, a, _, 0, _, rfl, rfl, hs, atN (j := 0) rfl, rfl, _, rfl, itD (congrArg V.str e4) ?_⟩
            refine ⟨.ref F, rfl, .ref a, rfl, a, _, 2, _, rfl, rfl, hs, rfl, b1, _, rfl, .inr (xx.seqT (x2.seqT hb1)), fun M nM => ?_⟩
            obtain ⟨yM, hM⟩ := nw (o := .lst zs1) nM
            have hs := yM.seqT hs
            have hF := yM.lst hF
            have xx := xx.trans yM
            refine ⟨F, M, _, _, rfl, rfl, hF, hM, by rw [List.length_map, ez1, List.length_map]; omega, fun G nG => ?_⟩
            have nG0 : H G = none := x02.f G (xx.f G nG)
            obtain ⟨yG, hG⟩ := nw (o := .lst (L.map V.str ++ zs1)) nG
            have hs := yG.seqT hs
            have xx := xx.trans yG
            refine ⟨.ref a, rfl, a, _, 3, _, rfl, rfl, hs, rfl, b2, _, rfl, .inr (xx.seqT (x2.seqT hb2)), fun M2 nM2 => ?_⟩
            obtain ⟨yM2, hM2⟩ := nw (o := .lst zs2) nM2
            have hs := yM2.seqT hs
            have xx := xx.trans yM2
            have hG := yM2.lst hG
            refine ⟨G, M2, _, _, rfl, rfl, hG, hM2, by rw [List.length_append, List.length_map, ez1, ez2, List.length_map, List.length_map]; omega, fun G2 nG2 => ?_⟩
            have nF : H G2 = none := x02.f G2 (xx.f G2 nG2)
            obtain ⟨yG2, hG2⟩ := nw (o := .lst (L.map V.str ++ zs1 ++ zs2)) nG2
            have hs := yG2.seqT hs
            have xx := xx.trans yG2
            have hF := hG2.trans (show some (HO.lst (L.map V.str ++ zs1 ++ zs2)) = some (HO.lst ((L ++ (bs1 ++ bs2)).map V.str)) by rw [List.map_append, List.map_append, ez1, ez2, ← List.append_assoc])
            exact mid G2 _ (L ++ (bs1 ++ bs2)) _ nF xx.nil hF hs (by rw [hbx])
          · rw [hbx] at ltot
            have hs := x2.seqT hs
            have xx : Ex [] H2 H2 := .refl
            refine ⟨.ref a, rfl, a, _, 0, _, rfl, rfl, hs, atN (j := 0) rfl, (by show 6 ≤ sizeLine; decide), fun t1 nt1 => ?_⟩
            obtain ⟨yt1, ht1⟩ := nw (o := .tup g1V) nt1
            have hs := yt1.seqT hs
            have hF := yt1.lst hF
            have xx := xx.trans yt1
            refine ⟨t1, g1V, rfl, .inr (.of ht1), rfl, rfl, _, rfl, ite2 (fun e => absurd (show inV (.str k0) g1V = true from e) (by rw [i1]; decide)) (fun _ => ?_)⟩
            refine ⟨.ref a, rfl, a, _, 0, _, rfl, rfl, hs, atN (j := 0) rfl, (by show 2 ≤ sizeLine; decide), fun t2 nt2 => ?_⟩
            obtain ⟨yt2, ht2⟩ := nw (o := .tup g2V) nt2
            have hs := yt2.seqT hs
            have hF := yt2.lst hF
            have xx := xx.trans yt2
            refine ⟨t2, g2V, rfl, .inr (.of ht2), rfl, rfl, _, rfl, ite2 (fun e => absurd (show inV (.str k0) g2V = true from e) (by rw [i2]; decide)) (fun _ => ?_)⟩
            refine ⟨.ref a, rfl, a, _, 0, _, rfl, rfl, hs, atN (j := 0) rfl, rfl, _, rfl, itN (fun e => n3 (V.str.inj e)) ?_⟩
            refine ⟨.ref a, rfl, a, _, 0, _, rfl, rfl, hs, atN (j := 0) rfl, rfl, _, rfl, itN (fun e => n4 (V.str.inj e)) ?_⟩
            exact mid F _ (L) _ nF xx.nil hF hs (by rw [hbx]; simp)
      · rintro σ H2 ⟨F, L, y2, y3, rfl, nF, hF, pm, x2⟩
        rw [hl, List.take_length] at pm
        exact ⟨_, rfl, q H2 F L nF x2 hF (pm.trans bp)⟩
end
end K03

set_option maxHeartbeats 8000000
namespace Kk
open PySem PySem.Spec PyProof.Rows L2
def leS (a b : Str) : Prop := a.cps.toList ≤ b.cps.toList
theorem leS_of {a b : Str} (h : ltCps b.cps.toList a.cps.toList = false) : leS a b := by
  rw [ltCps_eq] at h
  exact List.not_lt.mp (of_decide_eq_false h)
theorem leS_trans {a b c : Str} (h : leS a b) (g : leS b c) : leS a c := List.le_trans h g
theorem leS_anti {a b : Str} (h : leS a b) (g : leS b a) : a = b := by
  have e : a.cps.toList = b.cps.toList := List.le_antisymm h g
  cases a; cases b
  simp only at e
  congr
  exact Array.ext' e
theorem pw_rise : ∀ (l : List Str) (p : Str), risingS p l = true → (p :: l).Pairwise leS
  | [], p, _ => List.pairwise_singleton _ _
  | x :: r, p, h => by
    have h' : (!ltCps x.cps.toList p.cps.toList && risingS x r) = true := h
    rw [Bool.and_eq_true] at h'
    have h1 : leS p x := leS_of (by simpa using h'.1)
    have h2 := pw_rise r x h'.2
    refine List.pairwise_cons.mpr ⟨fun y hy => ?_, h2⟩
    rcases List.mem_cons.mp hy with z | z
    · rw [z]; exact h1
    · exact leS_trans h1 (List.rel_of_pairwise_cons h2 z)
theorem pw_sorted {l : List Str} (h : sortedS l = true) : l.Pairwise leS := by
  cases l with
  | nil => exact List.Pairwise.nil
  | cons x r => exact pw_rise r x h
theorem srt_uniq : ∀ (a b : List Str), a.Pairwise leS → b.Pairwise leS → a.Nodup → b.Nodup → (∀ x, x ∈ a ↔ x ∈ b) → a = b
  | [], [], _, _, _, _, _ => rfl
  | [], y :: b, _, _, _, _, h => by have := (h y).mpr List.mem_cons_self; cases this
  | x :: a, [], _, _, _, _, h => by have := (h x).mp List.mem_cons_self; cases this
  | x :: a, y :: b, pa, pb, na, nb, h => by
    have e : x = y := by
      rcases List.mem_cons.mp ((h x).mp List.mem_cons_self) with z | z
      · exact z
      · rcases List.mem_cons.mp ((h y).mpr List.mem_cons_self) with z2 | z2
        · exact z2.symm
        · exact leS_anti (List.rel_of_pairwise_cons pa z2) (List.rel_of_pairwise_cons pb z)
    subst e
    have na' := List.nodup_cons.mp na
    have nb' := List.nodup_cons.mp nb
    rw [srt_uniq a b (List.pairwise_cons.mp pa).2 (List.pairwise_cons.mp pb).2 na'.2 nb'.2 fun z => ?_]
    constructor
    · intro hz
      rcases List.mem_cons.mp ((h z).mp (List.mem_cons_of_mem _ hz)) with q | q
      · rw [q] at hz; exact absurd hz na'.1
      · exact q
    · intro hz
      rcases List.mem_cons.mp ((h z).mpr (List.mem_cons_of_mem _ hz)) with q | q
      · rw [q] at hz; exact absurd hz nb'.1
      · exact q
end Kk

set_option maxHeartbeats 8000000
namespace K03
open PySem PySem.Spec PyProof.Rows L2 Kk RZ
abbrev s_right : Stmt := topS 22
abbrev n_right : List Str := ["_law_row_here", "_law_many_here", "_law_due"]
theorem sc_right : FnScope n_right ["_law_row_here"] (defScope s_right) := ⟨rfl, rfl, rfl, by decide +kernel, rfl, by decide +kernel, by decide +kernel⟩
theorem bx_sub {D : Dm} {n l : Nat} {r : PyData} (h6 : D.boxes.length = 6) (h : Rw D 12 n l r) : ∀ x ∈ bxAll n r, x ∈ D.boxes := fun x hx => by
  obtain ⟨r', h1, h2⟩ := List.mem_flatMap.mp hx
  obtain ⟨m', l', _, ws, rfl, c, hw⟩ := all_rw n 12 l r (by decide) h r' h1
  obtain ⟨wd, h3, h4⟩ := List.mem_flatMap.mp h2
  exact (box_mem h6 (hw wd h3)).2 x h4
section
variable {P : Program} {w : World} {K : PySem.W.Frag} {mg : Str → Option Value} {base : Heap}
def spRight (K : PySem.W.Frag) (T : Addr) (m : Nat) : Sp := fun vs H Q _ => ∃ (v : V) (r : PyData) (D : Dm) (l : Nat), vs = [v] ∧ Tp K H v r ∧ Rw D 12 m l r ∧ m ≤ 4 ∧ D.boxes.length = 6 ∧ GxR.TabG H T ∧ ∀ H', Ex [] H H' → Q (.bl true) H'
theorem ok_right {f fW fM fB fX T : Addr} {fd fdW fdM fdB fdX : FuncData} {k m : Nat} (F : Fun K "_law_row_right" "_law_row_right" s_right f fd)
    (CW : Cl P w K mg base k "words_in" ["row"] (spWordsIn K T) fW fdW) (CM : Cl P w K mg base k "_law_many" ["_law_row_here"] (spMany K m) fM fdM)
    (CB : Cl P w K mg base k "_law_boxes" ["_law_row_here"] (spLBoxes K m) fB fdB) (CX : Cl P w K mg base k "boxes_in" ["row"] (spBoxesIn K) fX fdX)
    (m_isinstance : mg "isinstance" = none) (m_int : mg "int" = none) (m_bool : mg "bool" = none) (m_set : mg "set" = none) (m_sorted : mg "sorted" = none) (m_tuple : mg "tuple" = none) : FnOk P w K mg base CX0 (k + 1) f fd ["_law_row_here"] (spRight K T m) := by
  refine F.ok sc_right (fun vs H Q E h => ?_) (fun cdv A outer s H vs Q E hr h => ?_)
  · obtain ⟨v, r, D, l, rfl, _⟩ := h; rfl
  · obtain ⟨v, r, D, l, rfl, hT, hR, hm, h6, hG, q⟩ := h
    refine ⟨_, pss_cons (ps_set (i := 1) sc_right.nd rfl (.inl rfl) (pe_call CW.g hr (by rfl) CW.m CW.k CW.b .nil pass0 (pa_cons (pv 0) pa_nil)))
      (pss_cons (ps_if (PW.pt (pw_or (pt_not (pt_val (pe_callB call_isi (by rfl) m_isinstance (by decide +kernel) (pa_cons (pv 1) (pa_cons (pe_bltn (v := .ty "int") (by rfl) m_int (by decide +kernel) rfl) pa_nil)))))
        (pw_or (pt_val (pe_callB call_isi (by rfl) m_isinstance (by decide +kernel) (pa_cons (pv 1) (pa_cons (pe_bltn (v := .ty "bool") (by rfl) m_bool (by decide +kernel) rfl) pa_nil))))
        (pw_or1 (pt_cmpR op_ne (pv 1) (pe_call CM.g hr (by rfl) CM.m CM.k CM.b .nil pass0 (pa_cons (pv 0) pa_nil)) (nomark _)))))) (pss_one (ps_ret pe_bl)) pss_nil)
      (pss_cons (ps_set (i := 2) sc_right.nd rfl (.inl rfl) (pe_callTy call_tuple_of (by rfl) m_tuple (by decide +kernel) (pa_cons (pe_callB (call_sortSetS rfl) (by rfl) m_sorted (by decide +kernel) (pa_cons (pe_callTy (call_setS rfl) (by rfl) m_set (by decide +kernel) (pa_cons
        (pe_call CB.g hr (by rfl) CB.m CB.k CB.b .nil pass0 (pa_cons (pv 0) pa_nil)) pa_nil)) pa_nil)) pa_nil)))
      (pss_one (ps_ret (pe_and (pe_cmpR (op_eq_strs hr) (pe_call CX.g hr (by rfl) CX.m CX.k CX.b .nil pass0 (pa_cons (pv 0) pa_nil)) (pv 2) (nomark _))
        (pe_and (pe_cmpR (op_eq_strs hr) (pe_call CX.g hr (by rfl) CX.m CX.k CX.b .nil pass0 (pa_cons (pv 0) pa_nil)) (pv 2) (nomark _))
        (pe_one (pe_cmpR op_eq (pe_call CW.g hr (by rfl) CW.m CW.k CW.b .nil pass0 (pa_cons (pv 0) pa_nil)) (pv 1) (nomark _))))))))), ?_⟩
    have sub := bx_sub h6 hR
    refine ⟨v, rfl, v, r, D, m, l, rfl, hT, hR, hm, hG, fun H1 x1 => ?_⟩
    refine ⟨.int _, rfl, .int _, .ty "int", .type "int", .type "int", true, rfl, .ty "int", .base (.int _), kit_ty (by decide +kernel), true, rfl, iteF ?_⟩
    refine ⟨.int _, rfl, .int _, .ty "bool", .type "int", .type "bool", false, rfl, .ty "bool", .base (.int _), kit_ty (by decide +kernel), false, rfl, iteF ?_⟩
    refine ⟨.int _, rfl, v, rfl, v, r, D, l, rfl, hT.ex x1, hR, fun H2 x2 => ⟨rfl, _, rfl, ?_⟩⟩
    rw [decide_eq_true rfl]
    refine iteF ?_
    have x02 := x1.trans x2
    refine ⟨v, rfl, v, r, D, l, rfl, hT.ex x02, hR, hm, h6, fun H3 p L np x3 hp pm => ?_⟩
    have x03 := x02.trans x3
    have hsub : ∀ x ∈ L, x ∈ D.boxes := fun x hx => sub x (pm.mem_iff.mp hx)
    refine ⟨p, L, D.boxes, rfl, .of hp, hsub, by omega, fun S nS => ?_⟩
    have zS : Ex [] H3 (upd H3 S (SetS w S L)) := .new nS
    refine ⟨S, L, D.boxes, rfl, upd_same, hsub, by omega, fun ys pL s1 s2 s3 nL => ?_⟩
    obtain ⟨zL, hL⟩ := nw (o := .lst (ys.map V.str)) nL
    refine ⟨pL, _, rfl, .inl ⟨.of hL, fun t nt => ?_⟩⟩
    obtain ⟨zt, ht⟩ := nw (o := .tup (ys.map V.str)) nt
    have x04 := ((x03.trans zS).trans zL).trans zt
    have uniq : ∀ ys' : List Str, sortedS ys' = true → ys'.Nodup → (∀ x, x ∈ ys' ↔ x ∈ bxAll m r) → ys' = ys := fun ys' a1 a2 a3 =>
      srt_uniq _ _ (pw_sorted a1) (pw_sorted s1) a2 s2 fun x => by rw [a3 x, s3 x, pm.mem_iff]
    refine ⟨v, rfl, v, r, D, m, l, rfl, hT.ex x04, hR, hm, h6, fun H5 u ys' x5 tu a1 a2 a3 => ?_⟩
    obtain rfl := uniq ys' a1 a2 a3
    cases tu with
    | tup hu hau =>
      have e1 := hau.strs_inv
      subst e1
      refine ⟨.ref t, rfl, _, t, ys', rfl, rfl, hu, .of (x5.tup ht), true, rfl, iteT ?_⟩
      have x05 := x04.trans x5
      refine ⟨v, rfl, v, r, D, m, l, rfl, hT.ex x05, hR, hm, h6, fun H6 u2 ys2 x6 tu2 b1 b2 b3 => ?_⟩
      obtain rfl := uniq ys2 b1 b2 b3
      cases tu2 with
      | tup hu2 hau2 =>
        have e2 := hau2.strs_inv
        subst e2
        refine ⟨.ref t, rfl, _, t, ys2, rfl, rfl, hu2, .of ((x5.trans x6).tup ht), true, rfl, iteT ?_⟩
        have x06 := x05.trans x6
        refine ⟨v, rfl, v, r, D, m, l, rfl, hT.ex x06, hR, hm, x06.t _ hG, fun H7 x7 => ?_⟩
        refine ⟨.int _, rfl, rfl, ?_⟩
        rw [decide_eq_true rfl]
        exact q H7 (x06.trans x7)
end
end K03

set_option maxHeartbeats 8000000
namespace K03
open PySem PySem.Spec PyProof.Rows L2 Kk RZ
abbrev s_law : Stmt := topS 23
abbrev n_law : List Str := ["_law_script", "_law_k", "_law_kit_here", "_law_program_here", "_law_one", "_law_name"]
theorem sc_law : FnScope n_law ["_law_script"] (defScope s_law) := ⟨rfl, rfl, rfl, by decide +kernel, rfl, by decide +kernel, by decide +kernel⟩
theorem cut_drop {xs : List V} {n : Nat} (h : n ≤ xs.length) : cutV xs (some (n : Int)) none = xs.drop n := by
  unfold cutV
  rw [HT.sIx_nat, HT.sIx_none]
  have e : min n xs.length = n := by omega
  rw [e]
  exact List.take_of_length_le (by rw [List.length_drop]; exact Nat.le_refl _)
section
variable {P : Program} {w : World} {K : PySem.W.Frag} {mg : Str → Option Value} {base : Heap}
def spLaw (K : PySem.W.Frag) (T : Addr) : Sp := fun vs H Q _ => ∃ (s : Addr) (ns : List Int), vs = [.ref s] ∧ SqL K H s (ns.map V.int) ∧ ns.length ≤ 63 ∧ GxR.TabG H T ∧ ∀ H', Q (.bl true) H'
theorem ok_law {f fDk fK fP fDf fRw fR T : Addr} {fd fdDk fdK fdP fdDf fdRw fdR : FuncData} {k : Nat} (F : Fun K "law" "law" s_law f fd)
    (CDk : Cl P w K mg base k "_law_deck" ["_law_script", "_law_k"] (spDeck K) fDk fdDk) (CK : Cl P w K mg base k "_law_kit" ["_law_deck_here"] (spKit K) fK fdK)
    (CP : Cl P w K mg base k "_law_program" ["_law_kit_here", "_law_most"] (spProgram K) fP fdP) (CDf : Cl P w K mg base k "def_of" ["program", "name"] (spDefOf K) fDf fdDf)
    (CRw : Cl P w K mg base k "row_of" ["program", "name"] (spRowOf K) fRw fdRw) (CR3 : Cl P w K mg base k "_law_row_right" ["_law_row_here"] (spRight K T 3) fR fdR) (CR4 : Cl P w K mg base k "_law_row_right" ["_law_row_here"] (spRight K T 4) fR fdR)
    (m_len : mg "len" = none) (m_range : mg "range" = none) (m_max : mg "max" = none) (m_min : mg "min" = none) : FnOk P w K mg base CX0 (k + 1) f fd ["_law_script"] (spLaw K T) := by
  refine F.ok sc_law (fun vs H Q E h => ?_) (fun cdv A outer s H vs Q E hr h => ?_)
  · obtain ⟨s, ns, rfl, _⟩ := h; rfl
  · obtain ⟨sc, ns, rfl, hS, hns, hT, q⟩ := h
    refine ⟨_, pss_cons (ps_for PassesOwn.never rfl (pi_range1 (by rfl) m_range (pa_cons (pe_callB (call_max2 rfl) (by rfl) m_max (by decide +kernel) (pa_cons pe_int (pa_cons (pe_callB (call_min2 rfl) (by rfl) m_min (by decide +kernel) (pa_cons (pe_callB call_len_seq (by rfl) m_len PySem.boot_len (pa_cons (pv 0) pa_nil)) (pa_cons pe_int pa_nil))) pa_nil))) pa_nil)) (pg_name (i := 1) sc_law.nd rfl (.inl rfl))
        (pss_cons (ps_set (i := 2) sc_law.nd rfl (.inl rfl) (pe_call CK.g hr (by rfl) CK.m CK.k CK.b .nil pass0 (pa_cons (pe_call CDk.g hr (by rfl) CDk.m CDk.k CDk.b .nil pass0 (pa_cons (pv 0) (pa_cons (pv 1) pa_nil))) pa_nil)))
        (pss_cons (ps_set (i := 3) sc_law.nd rfl (.inl rfl) (pe_call CP.g hr (by rfl) CP.m CP.k CP.b .nil pass0 (pa_cons (pv 2) (pa_cons pe_int pa_nil))))
        (pss_cons (ps_for PassesOwn.never rfl (pi_tup (pe_ix ix_tup (pv 3) pe_int (fun _ _ => rfl))) (pg_name (i := 4) sc_law.nd rfl (.inl rfl))
          (pss_one (ps_if (PW.pt (pw_or (pt_cmpR (op_ne_self hr) (pe_call CDf.g hr (by rfl) CDf.m CDf.k CDf.b .nil pass0 (pa_cons (pv 3) (pa_cons (pe_ix ix_tup (pv 4) pe_int (fun _ _ => rfl)) pa_nil))) (pv 4) (nomark _))
            (pw_or (pt_cmpR (op_ne_self hr) (pe_call CRw.g hr (by rfl) CRw.m CRw.k CRw.b .nil pass0 (pa_cons (pv 3) (pa_cons (pe_ix ix_tup (pv 4) pe_int (fun _ _ => rfl)) pa_nil))) (pe_ix ix_tup (pv 4) pe_int (fun _ _ => rfl)) (nomark _))
            (pw_or1 (pt_not (pt_val (pe_call CR3.g hr (by rfl) CR3.m CR3.k CR3.b .nil pass0 (pa_cons (pe_ix ix_tup (pv 4) pe_int (fun _ _ => rfl)) pa_nil)))))))) (pss_one (ps_ret pe_bl)) pss_nil)))
        (pss_cons (ps_if (PW.pt (pw_or (pt_cmpR (op_ne_self hr) (pe_call CRw.g hr (by rfl) CRw.m CRw.k CRw.b .nil pass0 (pa_cons (pv 3) (pa_cons pe_str pa_nil))) (pe_ix ix_tup (pv 3) pe_int (fun _ _ => rfl)) (nomark _))
            (pw_or (pt_not (pt_val (pe_call CR4.g hr (by rfl) CR4.m CR4.k CR4.b .nil pass0 (pa_cons (pe_ix ix_tup (pv 3) pe_int (fun _ _ => rfl)) pa_nil))))
            (pw_or1 (pt_cmpR op_notN (pe_call CDf.g hr (by rfl) CDf.m CDf.k CDf.b .nil pass0 (pa_cons (pv 3) (pa_cons pe_str pa_nil))) pe_non (nomark _)))))) (pss_one (ps_ret pe_bl)) pss_nil)
        (pss_one (ps_for PassesOwn.never rfl (pi_list (pe_op op_cat (pe_slice sl_list (pe_dget (hu_of hr) (pv 2) pe_str (fun _ _ => rfl)) (po_some (pe_callB call_len_seq (by rfl) m_len PySem.boot_len (pa_cons (pe_ix ix_tup (pv 3) pe_int (fun _ _ => rfl)) pa_nil))) po_none) (pe_lst (pa_cons pe_str pa_nil)))) (pg_name (i := 5) sc_law.nd rfl (.inl rfl))
          (pss_one (ps_if (pt_cmpR op_notN (pe_call CDf.g hr (by rfl) CDf.m CDf.k CDf.b .nil pass0 (pa_cons (pv 3) (pa_cons (pv 5) pa_nil))) pe_non (nomark _)) (pss_one (ps_ret pe_bl)) pss_nil)))))))))
      (pss_one (ps_ret pe_bl)), ?_⟩
    generalize hmx : (if (if (8 : Int) < ((ns.map V.int).length : Int) then (8 : Int) else ((ns.map V.int).length : Int)) > 1 then (if (8 : Int) < ((ns.map V.int).length : Int) then (8 : Int) else ((ns.map V.int).length : Int)) else 1) = mx0
    have hm : 0 ≤ mx0 ∧ mx0 < 2 ^ 62 := by
      rw [← hmx]
      split
      · split <;> omega
      · omega
    refine ⟨.ref sc, rfl, sc, _, rfl, .inl hS, _, 8, rfl, 1, _, rfl, mx0, by rw [← hmx], by omega, hm.2, for_range (lo := 0) (n := mx0.toNat) (fun i σ H2 => Ex [] H H2 ∧ ∃ y1 y2 y3 y4 y5, σ = [some (.ref sc), y1, y2, y3, y4, y5]) ⟨.refl, _, _, _, _, _, rfl⟩ ?_ ?_⟩
    · rintro i σ H2 hi ⟨x2, y1, y2, y3, y4, y5, rfl⟩
      refine ⟨.ref sc, rfl, .int (0 + (i : Int)), rfl, sc, ns, i, by simp, x2.seqL hS, fun H3 d nd x3 D3 => ?_⟩
      refine ⟨d, 0, rfl, D3, by omega, fun H4 kt Z D e w0 w1 w2 w3 w4 w5 w6 w7 w8 w9 w10 w11 w12 w13 w14 w15 w16 w17 w18 w19 zd nk nkn x4 K4 X4 => ?_⟩
      have hcl6 : D.called.length = 6 := by rw [X4.cl]; rfl
      refine ⟨.ref kt, rfl, kt, Z, D, _, 6, rfl, K4, by decide, X4.kn, by omega, by omega, fun H5 v ds main x5 K5 t5 dO hdl hml hmw => ?_⟩
      obtain ⟨p, pq, xs, rv, rfl, G5⟩ := pg_of t5
      have h6 : D.boxes.length = 6 := K4.len
      have x25 : Ex [] H2 H5 := by
        have z : Ex [] H2 H4 := Ex.own nd x3 x4
        have nkt2 : H2 kt = none := x3.f kt nk
        have nkn2 : H2 Z.kn = none := x3.f _ nkn
        exact Ex.own nkn2 .refl (Ex.own nkt2 .refl (Ex.own (by rw [zd]; exact nd) (z.nil (ys := [kt, Z.kn])) x5))
      have x05 := x2.trans x25
      have ecl : D.called = ([w0, w1, w2, w3, w4, w5, w6, w7, w8, w9, w10, w11, w12, w13, w14, w15, w16, w17, w18, w19].drop 10).take 6 := X4.cl
      have ncl : D.called.Nodup := by
        rw [ecl]
        exact (X4.nd.sublist (List.drop_sublist 10 _)).sublist (List.take_sublist 6 _)
      have nmcl : ∀ z ∈ D.called, NmG z := fun z hz => X4.nm z (by
        rw [ecl] at hz
        exact (List.drop_sublist 10 _).subset ((List.take_sublist 6 _).subset hz))
      have nds : (ds.map DfX.a).Nodup := by rw [dO.nm]; exact ncl.sublist (List.take_sublist _ _)
      have first : ∀ (i : Nat) (x : DfX), ds[i]? = some x → ∀ (j : Nat) (y : DfX), j < i → ds[j]? = some y → y.a ≠ x.a := fun i x hx j y hj hy e => by
        have hi' : i < (ds.map DfX.a).length := by rw [List.length_map]; exact (List.getElem?_eq_some_iff.mp hx).1
        have := List.pairwise_iff_getElem.mp nds j i (by omega) hi' hj
        rw [List.getElem_map, List.getElem_map] at this
        have e1 := (List.getElem?_eq_some_iff.mp hx).2
        have e2 := (List.getElem?_eq_some_iff.mp hy).2
        rw [e1, e2] at this
        exact this e
      have mem : ∀ x ∈ ds, x.a ∈ D.called.take ds.length := fun x hx => by rw [← dO.nm]; exact List.mem_map_of_mem hx
      have memc : ∀ x ∈ ds, NmG x.a := fun x hx => nmcl _ (List.mem_of_mem_take (mem x hx))
      have noe : ∀ x ∈ ds, x.a ≠ ("" : Str) := fun x hx e => by
        have := (memc x hx).lo
        rw [e] at this
        exact absurd this (by decide +kernel)
      have lx : xs.length = ds.length := by rw [G5.d.len, List.length_map]
      refine ⟨.ref p, rfl, p, _, 0, _, rfl, rfl, G5.s, rfl, pq, rfl, ⟨xs, G5.t⟩, for_tup (a := pq) (xs := xs) (fun j σ H6 => Ex [] H5 H6 ∧ ∃ y4, σ = [some (.ref sc), some (.int (0 + (i : Int))), some (.ref kt), some (.ref p), y4, y5]) ⟨.refl, _, rfl⟩ (fun j σ H6 _ h => h.1.seqT G5.t) ?_ ?_⟩
      · rintro j u σ H6 hu ⟨x6, y4', rfl⟩
        have G6 := G5.ex x6
        obtain ⟨x, o, v2, v3, r, hx, rfl, ho, hrr⟩ := G6.at hu
        have hxm := List.mem_of_getElem? hx
        refine ⟨.ref p, rfl, .ref o, rfl, o, _, 0, _, rfl, rfl, ho, rfl, p, pq, ds, main, xs, rv, x.a, rfl, G6, .inl ⟨j, x, .ref o, hx, hu, rfl, first j x hx, ?_⟩⟩
        refine ⟨.ref o, rfl, o, _, rfl, rfl, ho, false, rfl, iteF ?_⟩
        refine ⟨.ref p, rfl, .ref o, rfl, o, _, 0, _, rfl, rfl, ho, rfl, p, pq, ds, main, xs, rv, x.a, rfl, G6, .inr ⟨noe x hxm, j, x, o, v2, v3, r, hx, hu, rfl, first j x hx, ho, ?_⟩⟩
        cases hrr with
        | tup hrs hra =>
          rename_i ra rts
          refine ⟨.ref o, rfl, o, _, 3, _, rfl, rfl, ho, rfl, ra, _, rfl, rfl, hrs, false, rfl, iteF ?_⟩
          refine ⟨.ref o, rfl, o, _, 3, _, rfl, rfl, ho, rfl, .ref ra, .tuple x.ws, Dm.wk D ((ds.take j).map DfX.k), 0, rfl, .tup hrs hra, ⟨x.ws, rfl, (dO.ar x hxm).2.2.2.2, dO.rw j x hx⟩, by decide, h6, x6.t _ (x05.t _ hT), fun H7 x7 => ?_⟩
          exact ⟨true, rfl, iteF ⟨x6.trans x7, _, rfl⟩⟩
      · rintro σ H6 ⟨x6, y4', rfl⟩
        have G6 := G5.ex x6
        refine ⟨.ref p, rfl, p, pq, ds, main, xs, rv, _, rfl, G6, .inl ⟨rfl, ?_⟩⟩
        have hr6 := G6.r
        cases hr6 with
        | tup hrs hra =>
          rename_i ra rts
          refine ⟨.ref p, rfl, p, _, 1, _, rfl, rfl, G6.s, rfl, ra, _, rfl, rfl, hrs, false, rfl, iteF ?_⟩
          refine ⟨.ref p, rfl, p, _, 1, _, rfl, rfl, G6.s, rfl, .ref ra, .tuple main, Dm.wk D (ds.map DfX.k), 0, rfl, .tup hrs hra, ⟨main, rfl, hml, hmw⟩, by decide, h6, x6.t _ (x05.t _ hT), fun H7 x7 => ?_⟩
          refine ⟨true, rfl, iteF ?_⟩
          have G7 := G6.ex x7
          have x57 := x6.trans x7
          refine ⟨.ref p, rfl, p, pq, ds, main, xs, _, _, rfl, G7, .inr ⟨noe, ?_⟩⟩
          refine ⟨rfl, false, rfl, iteF ?_⟩
          have K7 := K5.keep0 x57
          refine ⟨.ref kt, rfl, kt, _, rfl, K7.called, .ref p, rfl, p, _, 0, _, rfl, rfl, G7.s, rfl, pq, xs, rfl, .inr G7.t, _, rfl, Z.c, _, rfl, .of K7.c, fun S nS => ?_⟩
          have ecut : cutV (D.called.map V.str) (some (xs.length : Int)) none = (D.called.drop ds.length).map V.str := by
            rw [cut_drop (by rw [List.length_map]; omega), lx, List.map_drop]
          obtain ⟨zS, hS7⟩ := nw (o := .lst (cutV (D.called.map V.str) (some (xs.length : Int)) none)) nS
          have hS8 := hS7.trans (show some (HO.lst (cutV (D.called.map V.str) (some (xs.length : Int)) none)) = some (HO.lst ((D.called.drop ds.length).map V.str)) by rw [ecut])
          refine ⟨(by show 1 ≤ sizeLine; decide), fun M nM => ?_⟩
          obtain ⟨zM, hM⟩ := nw (o := .lst [.str odd8]) nM
          refine ⟨S, M, _, _, rfl, rfl, zM.lst hS8, hM, ?_, fun L nL => ?_⟩
          · rw [List.length_map, List.length_drop]
            exact Nat.le_trans (show D.called.length - ds.length + 1 ≤ 100 by omega) (by decide)
          obtain ⟨zL, hL⟩ := nw (o := .lst ((D.called.drop ds.length).map V.str ++ [.str odd8])) nL
          have G8 := ((G7.ex zS).ex zM).ex zL
          have x58 := ((x57.trans zS).trans zM).trans zL
          refine ⟨L, rfl, ⟨_, .of hL⟩, for_list (a := L) (xs := (D.called.drop ds.length).map V.str ++ [.str odd8]) (fun j σ H8 => H8 = _ ∧ ∃ y5, σ = [some (.ref sc), some (.int (0 + (i : Int))), some (.ref kt), some (.ref p), y4', y5]) ⟨rfl, _, rfl⟩ (fun j σ H8 _ h => by rw [h.1]; exact .of hL) ?_ ?_⟩
          · rintro j u σ H8 hu ⟨rfl, y5', rfl⟩
            have hu2 := List.mem_of_getElem? hu
            obtain ⟨a, rfl, ha⟩ : ∃ a : Str, u = .str a ∧ ∀ x ∈ ds, x.a ≠ a := by
              rcases List.mem_append.mp hu2 with z | z
              · obtain ⟨a, h1, rfl⟩ := List.mem_map.mp z
                refine ⟨a, rfl, fun x hx => ?_⟩
                have nn := ncl
                rw [← List.take_append_drop ds.length D.called] at nn
                exact (List.nodup_append.mp nn).2.2 _ (mem x hx) _ h1
              · exact ⟨odd8, List.mem_singleton.mp z, fun x hx => (memc x hx).odd⟩
            refine ⟨.ref p, rfl, .str a, rfl, p, pq, ds, main, xs, _, a, rfl, G8, .inr ⟨ha, ?_⟩⟩
            exact ⟨rfl, false, rfl, iteF ⟨rfl, _, rfl⟩⟩
          · rintro σ H8 ⟨rfl, y5', rfl⟩
            exact ⟨x05.trans x58, _, _, _, _, _, rfl⟩
    · rintro σ H2 ⟨x2, y1, y2, y3, y4, y5, rfl⟩
      exact q H2
end
end K03

set_option maxHeartbeats 4000000
namespace Kk
open PySem PySem.Spec PyProof.Rows L2
/-- the end of a law some of whose defs have generator expressions; what the top has told is handed on -/
theorem walkT {l : PySem.W.OpenLaw} {m lev : Nat} {q : Program} {loose : List Str} {XP : (Str → Option Value) → Heap → Prop} {YP : World → Heap → Prop} {dr : DefRec} {K : Params → PySem.W.Frag} {x : Str}
    (most : l.most = some m) (small : m ≤ sizeLine) (nodef : dr.params.defaults = []) (room : Room lev callerA) (written : ∀ (w : World) (h : Heap), YP w h → (K w.params).In h)
    (F : ∀ (w : World) (mg mb : Str → Option Value) (mean : ExcName → Option Value) (fa : Addr) (h : Heap), (K w.params).In h → PyProof.Rows.Top q (PySem.W.looseW q loose) mean mg mb h → mg dr.name = some (.ref fa) →
      LamX.LawAtS l w (K w.params) CX0 lev m x mg fa h) :
    PySem.W.WalkO q loose XP YP l.row.toRowW dr [] (fun f vs => PySem.call f vs) := by
  refine Att.attach_callB most nodef fun w s0 s1 mg mb fa o pm cd doc a vs ns gr Y ho hd hcd hmg hobj hin hlen hbits hgens => ?_
  have inK := written w _ Y
  obtain ⟨fd, tabs, sp, tAt, tOut, tHd, bind, prom, ok⟩ := F w mg mb _ fa _ inK gr.T hmg
  refine LamX.law_callTs inK gr.T.g gr.T.b gr.T.builtins gr.T.nolimit hgens tAt tOut tHd gr.T.bmain hobj hin (Nat.le_trans hlen small) room ok bind ?_ ?_
  · exact fun H hH hS => prom H a ns hlen hbits hH hS
  · exact fun H e s' z => z
end Kk
namespace K03
open PySem PySem.Spec PyProof.Rows L2 Kk RZ
/-- where a def stands -/
structure AtN (K : PySem.W.Frag) (x : Str) (st : Stmt) (f : Addr) (fd : FuncData) : Prop where
  a : PySem.W.nsIn K mainGlobals x = some (some (.ref f))
  F : Fun K x x st f fd
theorem at_mk {K : PySem.W.Frag} {x : Str} {st : Stmt} {f : Addr} {oc : Value} {od an : Option Addr} {sl : Array (Option Value)} {kV doc pm cd ct : Value} (a : PySem.W.nsIn K mainGlobals x = some (some (.ref f)))
    (l : K.lookup f = some ⟨oc, od, .func (PySem.W.fnOf x x (defArgs st) (defBody st) (defScope st) .none kV doc pm an cd ct), sl⟩) (c : PySem.W.codeIn K cd x = true) (k : PySem.W.keepIn K (.ref f) = true) :
    AtN K x st f (PySem.W.fnOf x x (defArgs st) (defBody st) (defScope st) .none kV doc pm an cd ct) := ⟨a, fun_mk l c k⟩
/-- a form, where it stands -/
def FmA (K : PySem.W.Frag) (fA : Addr) (k : Str) (ks : List Str) : Prop := ∃ t, PySem.W.nsIn K fA k = some (some (.ref t)) ∧ ∃ (d : Option Addr) (its : Array Value) (n : Nat) (sl : Array (Option Value)), K.lookup t = some ⟨.type "tuple", d, .seq its n, sl⟩ ∧ its.size ≤ sizeLine ∧ Vals (ks.map V.str) its.toList
theorem fmA_mk {K : PySem.W.Frag} {fA t : Addr} {k : Str} {ks : List Str} {d : Option Addr} {its : Array Value} {n : Nat} {sl : Array (Option Value)} (a : PySem.W.nsIn K fA k = some (some (.ref t))) (l : K.lookup t = some ⟨.type "tuple", d, .seq its n, sl⟩) (z : its.size ≤ sizeLine) (v : Vals (ks.map V.str) its.toList) : FmA K fA k ks := ⟨t, a, d, its, n, sl, l, z, v⟩
theorem all_mk {l : PySem.W.OpenLaw} {w : World} {K : PySem.W.Frag} {q : Program} {loose : List Str} {mean : ExcName → Option Value} {h : Heap} {mg mb : Str → Option Value} {dn : DefRec} {fa c T fA fW fL : Addr} {f0 f1 f2 f3 f4 f5 f6 f7 f8 f9 f10 f11 f12 f13 f14 f15 f16 f17 f18 : Addr}
    {fd0 fd1 fd2 fd3 fd4 fd5 fd6 fd7 fd8 fd9 fd10 fd11 fd12 fd13 fd14 fd15 fd16 fd17 fd18 : FuncData} {oc0 kV0 doc0 pm0 ct0 ocL kVL docL pmL cdL ctL : Value} {od0 an0 odL anL : Option Addr} {sl0 slL : Array (Option Value)} {cvs : Array Value} {occ : Value} {odc : Option Addr} {slc : Array (Option Value)} {es : Array DictEntry} {nE : Nat}
    (X : K.In h) (top : PyProof.Rows.Top q loose mean mg mb h) (hfa : mg "law" = some (.ref fa))
    (a0 : PySem.W.nsIn K mainGlobals "words_in" = some (some (.ref fW))) (l0 : K.lookup fW = some ⟨oc0, od0, .func (PySem.W.fnOf "words_in" "words_in" (defArgs s_words_in) (defBody s_words_in) (defScope s_words_in) .none kV0 doc0 pm0 an0 (.ref c) ct0), sl0⟩) (c0 : PySem.W.codeIn K (.ref c) "words_in" = true) (k0 : PySem.W.keepIn K (.ref fW) = true)
    (A0 : AtN K "rows_of" s_rows_of f0 fd0)
    (A1 : AtN K "all_rows" s_all_rows f1 fd1)
    (A2 : AtN K "boxes_of" s_boxes_of f2 fd2)
    (A3 : AtN K "boxes_in" s_boxes_in f3 fd3)
    (A4 : AtN K "def_of" s_def_of f4 fd4)
    (A5 : AtN K "row_of" s_row_of f5 fd5)
    (A6 : AtN K "_law_deck" sDeck f6 fd6)
    (A7 : AtN K "_law_draw" sDraw f7 fd7)
    (A8 : AtN K "_law_names" sNames f8 fd8)
    (A9 : AtN K "_law_kit" s_kit f9 fd9)
    (A10 : AtN K "_law_some" s_some f10 fd10)
    (A11 : AtN K "_law_unlike" s_unlike f11 fd11)
    (A12 : AtN K "_law_row" s_row f12 fd12)
    (A13 : AtN K "_law_word" s_word f13 fd13)
    (A14 : AtN K "_law_program" s_program f14 fd14)
    (A15 : AtN K "_law_inner" s_inner f15 fd15)
    (A16 : AtN K "_law_many" s_many f16 fd16)
    (A17 : AtN K "_law_boxes" s_lboxes f17 fd17)
    (A18 : AtN K "_law_row_right" s_right f18 fd18)
    (aL : PySem.W.nsIn K mainGlobals "law" = some (some (.ref fL))) (lL : K.lookup fL = some ⟨ocL, odL, .func (PySem.W.fnOf "law" "law" (defArgs s_law) (defBody s_law) (defScope s_law) .none kVL docL pmL anL cdL ctL), slL⟩) (cL : PySem.W.codeIn K cdL "law" = true) (kL : PySem.W.keepIn K (.ref fL) = true)
    (rn : (recsOf q).find? (fun e => e.name == ("words_in" : Str)) = some dn) (lc : K.lookup c = some ⟨occ, odc, .fields cvs, slc⟩) (v11 : cvs[11]? = some (.ref T)) (tbn : K.lookup T = none)
    (gF : PySem.W.nsIn K mainGlobals "FORMS" = some (some (.ref fA))) (lF : K.lookup fA = some ⟨.type "dict", none, .dict es nE, #[]⟩) (kl : PySem.W.KeysLit w.params es.toList)
    (m0 : FmA K fA (Str.ofString "take") (["box", "name"].map Str.ofString))
    (m1 : FmA K fA (Str.ofString "ask") (["box"].map Str.ofString))
    (m2 : FmA K fA (Str.ofString "number") (["box", "whole"].map Str.ofString))
    (m3 : FmA K fA (Str.ofString "copy") (["box", "box"].map Str.ofString))
    (m4 : FmA K fA (Str.ofString "mix") (["box", "box", "box"].map Str.ofString))
    (m5 : FmA K fA (Str.ofString "open") (["box", "box"].map Str.ofString))
    (m6 : FmA K fA (Str.ofString "tell") (["box"].map Str.ofString))
    (m7 : FmA K fA (Str.ofString "wipe") (["box"].map Str.ofString))
    (m8 : FmA K fA (Str.ofString "clear") (["name"].map Str.ofString))
    (m9 : FmA K fA (Str.ofString "drop") (["boxes"].map Str.ofString))
    (m10 : FmA K fA (Str.ofString "choose") (["rows"].map Str.ofString))
    (m11 : FmA K fA (Str.ofString "loop") (["row"].map Str.ofString))
    (m12 : FmA K fA (Str.ofString "out") (["whole"].map Str.ofString))
    (m13 : FmA K fA (Str.ofString "risk") (["name"].map Str.ofString))
    (m14 : FmA K fA (Str.ofString "fault") (["name"].map Str.ofString))
    (m15 : FmA K fA (Str.ofString "call") (["name", "boxes", "boxes"].map Str.ofString))
    (m16 : FmA K fA (Str.ofString "back") ([].map Str.ofString))
    (z0 : PySem.W.nsIn K mainGlobals "len" = some none) (z1 : PySem.W.nsIn K mainGlobals "int" = some none) (z2 : PySem.W.nsIn K mainGlobals "range" = some none) (z3 : PySem.W.nsIn K mainGlobals "list" = some none) (z4 : PySem.W.nsIn K mainGlobals "tuple" = some none) (z5 : PySem.W.nsIn K mainGlobals "max" = some none) (z6 : PySem.W.nsIn K mainGlobals "min" = some none) (z7 : PySem.W.nsIn K mainGlobals "sum" = some none) (z8 : PySem.W.nsIn K mainGlobals "set" = some none) (z9 : PySem.W.nsIn K mainGlobals "sorted" = some none) (z10 : PySem.W.nsIn K mainGlobals "zip" = some none) (z11 : PySem.W.nsIn K mainGlobals "isinstance" = some none) (z12 : PySem.W.nsIn K mainGlobals "bool" = some none) :
    LamX.LawAtS l w K CX0 14 63 "_law_script" mg fa h := by
  have G := top.g
  have e := hfa.symm.trans (PySem.W.mg_of X G aL)
  cases e
  have tb : PySem.W.tabIn K "words_in" = some (c, T) := by
    unfold PySem.W.tabIn
    rw [a0]
    simp only [l0]
    show (match K.lookup c with | some ⟨_, _, .fields vs, _⟩ => (match (vs[11]? : Option Value) with | some (.ref P) => some (c, P) | _ => none) | _ => none) = some (c, T)
    rw [lc]
    simp only [v11]
  obtain ⟨chd, cT⟩ := PySem.W.tab_of top X rn tb
  have FL := fun_mk (st := s_law) lL cL kL
  refine ⟨PySem.W.fnOf "law" "law" (defArgs s_law) (defBody s_law) (defScope s_law) .none kVL docL pmL anL cdL ctL, [(c, T)], spLaw K T, ?_, ?_, ?_, fun s v => .of_eq rfl, ?_, fun base inB gls tabs => ?_⟩
  · intro p hp; rw [List.mem_singleton.mp hp]; exact cT
  · intro p hp; rw [List.mem_singleton.mp hp]; exact tbn
  · intro p hp; rw [List.mem_singleton.mp hp]; exact chd
  · intro H a ns hl _ hH hS
    exact ⟨a, ns, rfl, hS, hl, ⟨#[], hH (c, T) (by simp), True.intro⟩, fun _ => rfl⟩
  · have tab : GxR.TabB base mg c T := by
      obtain ⟨u1, u2, u3⟩ := tabs (c, T) (by simp)
      exact ⟨u1, u2, u3⟩
    have one : ∀ k ks, FmA K fA k ks → ∃ t, KDct K w fA k (.ref t) ∧ ∀ H, SqT K H t (ks.map V.str) := fun k ks ⟨t, h1, d, its, n, sl, h2, h3, h4⟩ => ⟨t, ⟨es, nE, _, lF, kl, h1, rfl⟩, fun H => .inr ⟨_, its, n, h2, rfl, rfl, h3, h4⟩⟩
    have MF : Fm K w mg fA := ⟨PySem.W.mg_of X G gF, fun k ks hk => by
      have hk2 : (k, ks) ∈ [(Str.ofString "take", ["box", "name"].map Str.ofString), (Str.ofString "ask", ["box"].map Str.ofString), (Str.ofString "number", ["box", "whole"].map Str.ofString), (Str.ofString "copy", ["box", "box"].map Str.ofString), (Str.ofString "mix", ["box", "box", "box"].map Str.ofString), (Str.ofString "open", ["box", "box"].map Str.ofString), (Str.ofString "tell", ["box"].map Str.ofString), (Str.ofString "wipe", ["box"].map Str.ofString), (Str.ofString "clear", ["name"].map Str.ofString), (Str.ofString "drop", ["boxes"].map Str.ofString), (Str.ofString "choose", ["rows"].map Str.ofString), (Str.ofString "loop", ["row"].map Str.ofString), (Str.ofString "out", ["whole"].map Str.ofString), (Str.ofString "risk", ["name"].map Str.ofString), (Str.ofString "fault", ["name"].map Str.ofString), (Str.ofString "call", ["name", "boxes", "boxes"].map Str.ofString), (Str.ofString "back", [].map Str.ofString)] := hk
      simp only [List.mem_cons, List.not_mem_nil, or_false, Prod.mk.injEq] at hk2
      rcases hk2 with ⟨rfl, rfl⟩ | ⟨rfl, rfl⟩ | ⟨rfl, rfl⟩ | ⟨rfl, rfl⟩ | ⟨rfl, rfl⟩ | ⟨rfl, rfl⟩ | ⟨rfl, rfl⟩ | ⟨rfl, rfl⟩ | ⟨rfl, rfl⟩ | ⟨rfl, rfl⟩ | ⟨rfl, rfl⟩ | ⟨rfl, rfl⟩ | ⟨rfl, rfl⟩ | ⟨rfl, rfl⟩ | ⟨rfl, rfl⟩ | ⟨rfl, rfl⟩ | ⟨rfl, rfl⟩
      · exact one _ _ m0
      · exact one _ _ m1
      · exact one _ _ m2
      · exact one _ _ m3
      · exact one _ _ m4
      · exact one _ _ m5
      · exact one _ _ m6
      · exact one _ _ m7
      · exact one _ _ m8
      · exact one _ _ m9
      · exact one _ _ m10
      · exact one _ _ m11
      · exact one _ _ m12
      · exact one _ _ m13
      · exact one _ _ m14
      · exact one _ _ m15
      · exact one _ _ m16⟩
    have m_len := PySem.W.mg_none_of X G z0
    have m_int := PySem.W.mg_none_of X G z1
    have m_range := PySem.W.mg_none_of X G z2
    have m_list := PySem.W.mg_none_of X G z3
    have m_tuple := PySem.W.mg_none_of X G z4
    have m_max := PySem.W.mg_none_of X G z5
    have m_min := PySem.W.mg_none_of X G z6
    have m_sum := PySem.W.mg_none_of X G z7
    have m_set := PySem.W.mg_none_of X G z8
    have m_sorted := PySem.W.mg_none_of X G z9
    have m_zip := PySem.W.mg_none_of X G z10
    have m_isinstance := PySem.W.mg_none_of X G z11
    have m_bool := PySem.W.mg_none_of X G z12
    have gW := PySem.W.mg_of X G a0
    have FW := fun_mk (st := s_words_in) l0 c0 k0
    have bW := FW.binds (ps := ["row"]) fun _ _ _ _ _ _ us hl => match us, hl with | [_], _ => rfl
    have g0 := PySem.W.mg_of X G A0.a
    have b0 := A0.F.binds (ps := ["word"]) fun _ _ _ _ _ _ us hl => match us, hl with | [_], _ => rfl
    have g1 := PySem.W.mg_of X G A1.a
    have b1 := A1.F.binds (ps := ["row"]) fun _ _ _ _ _ _ us hl => match us, hl with | [_], _ => rfl
    have g2 := PySem.W.mg_of X G A2.a
    have b2 := A2.F.binds (ps := ["word"]) fun _ _ _ _ _ _ us hl => match us, hl with | [_], _ => rfl
    have g3 := PySem.W.mg_of X G A3.a
    have b3 := A3.F.binds (ps := ["row"]) fun _ _ _ _ _ _ us hl => match us, hl with | [_], _ => rfl
    have g4 := PySem.W.mg_of X G A4.a
    have b4 := A4.F.binds (ps := ["program", "name"]) fun _ _ _ _ _ _ us hl => match us, hl with | [_, _], _ => rfl
    have g5 := PySem.W.mg_of X G A5.a
    have b5 := A5.F.binds (ps := ["program", "name"]) fun _ _ _ _ _ _ us hl => match us, hl with | [_, _], _ => rfl
    have g6 := PySem.W.mg_of X G A6.a
    have b6 := A6.F.binds (ps := ["_law_script", "_law_k"]) fun _ _ _ _ _ _ us hl => match us, hl with | [_, _], _ => rfl
    have g7 := PySem.W.mg_of X G A7.a
    have b7 := A7.F.binds (ps := ["_law_deck_here", "_law_many_here"]) fun _ _ _ _ _ _ us hl => match us, hl with | [_, _], _ => rfl
    have g8 := PySem.W.mg_of X G A8.a
    have b8 := A8.F.binds (ps := ["_law_deck_here", "_law_many_here"]) fun _ _ _ _ _ _ us hl => match us, hl with | [_, _], _ => rfl
    have g9 := PySem.W.mg_of X G A9.a
    have b9 := A9.F.binds (ps := ["_law_deck_here"]) fun _ _ _ _ _ _ us hl => match us, hl with | [_], _ => rfl
    have g10 := PySem.W.mg_of X G A10.a
    have b10 := A10.F.binds (ps := ["_law_kit_here", "_law_things"]) fun _ _ _ _ _ _ us hl => match us, hl with | [_, _], _ => rfl
    have g11 := PySem.W.mg_of X G A11.a
    have b11 := A11.F.binds (ps := ["_law_kit_here", "_law_many_here"]) fun _ _ _ _ _ _ us hl => match us, hl with | [_, _], _ => rfl
    have g12 := PySem.W.mg_of X G A12.a
    have b12 := A12.F.binds (ps := ["_law_kit_here", "_law_deep", "_law_many_here", "_law_loops"]) fun _ _ _ _ _ _ us hl => match us, hl with | [_, _, _, _], _ => rfl
    have g13 := PySem.W.mg_of X G A13.a
    have b13 := A13.F.binds (ps := ["_law_kit_here", "_law_deep", "_law_loops", "_law_way"]) fun _ _ _ _ _ _ us hl => match us, hl with | [_, _, _, _], _ => rfl
    have g14 := PySem.W.mg_of X G A14.a
    have b14 := A14.F.binds (ps := ["_law_kit_here", "_law_most"]) fun _ _ _ _ _ _ us hl => match us, hl with | [_, _], _ => rfl
    have g15 := PySem.W.mg_of X G A15.a
    have b15 := A15.F.binds (ps := ["_law_word_here"]) fun _ _ _ _ _ _ us hl => match us, hl with | [_], _ => rfl
    have g16 := PySem.W.mg_of X G A16.a
    have b16 := A16.F.binds (ps := ["_law_row_here"]) fun _ _ _ _ _ _ us hl => match us, hl with | [_], _ => rfl
    have g17 := PySem.W.mg_of X G A17.a
    have b17 := A17.F.binds (ps := ["_law_row_here"]) fun _ _ _ _ _ _ us hl => match us, hl with | [_], _ => rfl
    have g18 := PySem.W.mg_of X G A18.a
    have b18 := A18.F.binds (ps := ["_law_row_here"]) fun _ _ _ _ _ _ us hl => match us, hl with | [_], _ => rfl
    have o_rows : FnOk l.prog w K mg base CX0 1 f0 fd0 ["word"] (spRowsOf K) := ok_rows_of A0.F
    have o_all : FnOk l.prog w K mg base CX0 2 f1 fd1 ["row"] (spAllRows K) := ok_all_rows A1.F ⟨o_rows.mono (by decide), A0.F.kp, b0, g0⟩
    have o_words : FnOk l.prog w K mg base CX0 3 fW _ ["row"] (spWordsIn K T) := ok_words_in l0 c0 tab ⟨o_all.mono (by decide), A1.F.kp, b1, g1⟩ m_sum m_len
    have o_bof : FnOk l.prog w K mg base CX0 1 f2 fd2 ["word"] (spBoxesOf K) := ok_boxes_of A2.F MF m_zip
    have o_bin : FnOk l.prog w K mg base CX0 3 f3 fd3 ["row"] (spBoxesIn K) := ok_boxes_in A3.F ⟨o_all.mono (by decide), A1.F.kp, b1, g1⟩ ⟨o_bof.mono (by decide), A2.F.kp, b2, g2⟩ m_set m_sorted m_tuple
    have o_def : FnOk l.prog w K mg base CX0 1 f4 fd4 ["program", "name"] (spDefOf K) := ok_def_of A4.F
    have o_rof : FnOk l.prog w K mg base CX0 2 f5 fd5 ["program", "name"] (spRowOf K) := ok_row_of A5.F ⟨o_def.mono (by decide), A4.F.kp, b4, g4⟩
    have o_deck : FnOk l.prog w K mg base CX0 1 f6 fd6 ["_law_script", "_law_k"] (spDeck K) := ok_deck A6.F m_len m_int
    have o_draw : FnOk l.prog w K mg base CX0 1 f7 fd7 ["_law_deck_here", "_law_many_here"] spDraw := ok_draw A7.F
    have o_names : FnOk l.prog w K mg base CX0 2 f8 fd8 ["_law_deck_here", "_law_many_here"] spNames := ok_names A8.F ⟨o_draw.mono (by decide), A7.F.kp, b7, g7⟩ m_len m_range
    have o_kit : FnOk l.prog w K mg base CX0 3 f9 fd9 ["_law_deck_here"] (spKit K) := ok_kit A9.F ⟨o_draw.mono (by decide), A7.F.kp, b7, g7⟩ ⟨o_names.mono (by decide), A8.F.kp, b8, g8⟩
    have o_some : FnOk l.prog w K mg base CX0 2 f10 fd10 ["_law_kit_here", "_law_things"] (spSome K) := ok_some A10.F ⟨o_draw.mono (by decide), A7.F.kp, b7, g7⟩ m_len
    have o_unl : FnOk l.prog w K mg base CX0 2 f11 fd11 ["_law_kit_here", "_law_many_here"] (spUnlike K) := ok_unlike A11.F ⟨o_draw.mono (by decide), A7.F.kp, b7, g7⟩ m_len m_list m_tuple m_range
    have o_word0 : FnOk l.prog w K mg base CX0 3 f13 fd13 ["_law_kit_here", "_law_deep", "_law_loops", "_law_way"] (spWord K 0) := ok_word A13.F ⟨o_draw.mono (by decide), A7.F.kp, b7, g7⟩ ⟨o_some.mono (by decide), A10.F.kp, b10, g10⟩ ⟨o_unl.mono (by decide), A11.F.kp, b11, g11⟩ ⟨ok_never, A12.F.kp, b12, g12⟩ (fun m h => by omega) m_range m_tuple
    have o_row0 : FnOk l.prog w K mg base CX0 4 f12 fd12 ["_law_kit_here", "_law_deep", "_law_many_here", "_law_loops"] (spRow K 0) := ok_row A12.F ⟨o_draw.mono (by decide), A7.F.kp, b7, g7⟩ ⟨o_word0.mono (by decide), A13.F.kp, b13, g13⟩ m_range
    have o_word1 : FnOk l.prog w K mg base CX0 5 f13 fd13 ["_law_kit_here", "_law_deep", "_law_loops", "_law_way"] (spWord K 1) := ok_word A13.F ⟨o_draw.mono (by decide), A7.F.kp, b7, g7⟩ ⟨o_some.mono (by decide), A10.F.kp, b10, g10⟩ ⟨o_unl.mono (by decide), A11.F.kp, b11, g11⟩ ⟨o_row0.mono (by decide), A12.F.kp, b12, g12⟩ (fun m h => by obtain rfl : m = 0 := (by omega); rfl) m_range m_tuple
    have o_row1 : FnOk l.prog w K mg base CX0 6 f12 fd12 ["_law_kit_here", "_law_deep", "_law_many_here", "_law_loops"] (spRow K 1) := ok_row A12.F ⟨o_draw.mono (by decide), A7.F.kp, b7, g7⟩ ⟨o_word1.mono (by decide), A13.F.kp, b13, g13⟩ m_range
    have o_word2 : FnOk l.prog w K mg base CX0 7 f13 fd13 ["_law_kit_here", "_law_deep", "_law_loops", "_law_way"] (spWord K 2) := ok_word A13.F ⟨o_draw.mono (by decide), A7.F.kp, b7, g7⟩ ⟨o_some.mono (by decide), A10.F.kp, b10, g10⟩ ⟨o_unl.mono (by decide), A11.F.kp, b11, g11⟩ ⟨o_row1.mono (by decide), A12.F.kp, b12, g12⟩ (fun m h => by obtain rfl : m = 1 := (by omega); rfl) m_range m_tuple
    have o_row2 : FnOk l.prog w K mg base CX0 8 f12 fd12 ["_law_kit_here", "_law_deep", "_law_many_here", "_law_loops"] (spRow K 2) := ok_row A12.F ⟨o_draw.mono (by decide), A7.F.kp, b7, g7⟩ ⟨o_word2.mono (by decide), A13.F.kp, b13, g13⟩ m_range
    have o_word3 : FnOk l.prog w K mg base CX0 9 f13 fd13 ["_law_kit_here", "_law_deep", "_law_loops", "_law_way"] (spWord K 3) := ok_word A13.F ⟨o_draw.mono (by decide), A7.F.kp, b7, g7⟩ ⟨o_some.mono (by decide), A10.F.kp, b10, g10⟩ ⟨o_unl.mono (by decide), A11.F.kp, b11, g11⟩ ⟨o_row2.mono (by decide), A12.F.kp, b12, g12⟩ (fun m h => by obtain rfl : m = 2 := (by omega); rfl) m_range m_tuple
    have o_row3 : FnOk l.prog w K mg base CX0 10 f12 fd12 ["_law_kit_here", "_law_deep", "_law_many_here", "_law_loops"] (spRow K 3) := ok_row A12.F ⟨o_draw.mono (by decide), A7.F.kp, b7, g7⟩ ⟨o_word3.mono (by decide), A13.F.kp, b13, g13⟩ m_range
    have o_word4 : FnOk l.prog w K mg base CX0 11 f13 fd13 ["_law_kit_here", "_law_deep", "_law_loops", "_law_way"] (spWord K 4) := ok_word A13.F ⟨o_draw.mono (by decide), A7.F.kp, b7, g7⟩ ⟨o_some.mono (by decide), A10.F.kp, b10, g10⟩ ⟨o_unl.mono (by decide), A11.F.kp, b11, g11⟩ ⟨o_row3.mono (by decide), A12.F.kp, b12, g12⟩ (fun m h => by obtain rfl : m = 3 := (by omega); rfl) m_range m_tuple
    have o_row4 : FnOk l.prog w K mg base CX0 12 f12 fd12 ["_law_kit_here", "_law_deep", "_law_many_here", "_law_loops"] (spRow K 4) := ok_row A12.F ⟨o_draw.mono (by decide), A7.F.kp, b7, g7⟩ ⟨o_word4.mono (by decide), A13.F.kp, b13, g13⟩ m_range
    have o_prog : FnOk l.prog w K mg base CX0 13 f14 fd14 ["_law_kit_here", "_law_most"] (spProgram K) := ok_program A14.F ⟨o_draw.mono (by decide), A7.F.kp, b7, g7⟩ ⟨o_unl.mono (by decide), A11.F.kp, b11, g11⟩ ⟨o_row3.mono (by decide), A12.F.kp, b12, g12⟩ ⟨o_row4.mono (by decide), A12.F.kp, b12, g12⟩ m_int m_max m_tuple
    have o_inn : FnOk l.prog w K mg base CX0 1 f15 fd15 ["_law_word_here"] (spRowsOf K) := ok_inner A15.F
    have o_many0 : FnOk l.prog w K mg base CX0 2 f16 fd16 ["_law_row_here"] (spMany K 0) := ok_many A16.F ⟨o_inn.mono (by decide), A15.F.kp, b15, g15⟩ ⟨ok_never, A16.F.kp, b16, g16⟩ (fun m h => by omega) m_len m_sum
    have o_many1 : FnOk l.prog w K mg base CX0 3 f16 fd16 ["_law_row_here"] (spMany K 1) := ok_many A16.F ⟨o_inn.mono (by decide), A15.F.kp, b15, g15⟩ ⟨o_many0.mono (by decide), A16.F.kp, b16, g16⟩ (fun m h => by obtain rfl : m = 0 := (by omega); rfl) m_len m_sum
    have o_many2 : FnOk l.prog w K mg base CX0 4 f16 fd16 ["_law_row_here"] (spMany K 2) := ok_many A16.F ⟨o_inn.mono (by decide), A15.F.kp, b15, g15⟩ ⟨o_many1.mono (by decide), A16.F.kp, b16, g16⟩ (fun m h => by obtain rfl : m = 1 := (by omega); rfl) m_len m_sum
    have o_many3 : FnOk l.prog w K mg base CX0 5 f16 fd16 ["_law_row_here"] (spMany K 3) := ok_many A16.F ⟨o_inn.mono (by decide), A15.F.kp, b15, g15⟩ ⟨o_many2.mono (by decide), A16.F.kp, b16, g16⟩ (fun m h => by obtain rfl : m = 2 := (by omega); rfl) m_len m_sum
    have o_many4 : FnOk l.prog w K mg base CX0 6 f16 fd16 ["_law_row_here"] (spMany K 4) := ok_many A16.F ⟨o_inn.mono (by decide), A15.F.kp, b15, g15⟩ ⟨o_many3.mono (by decide), A16.F.kp, b16, g16⟩ (fun m h => by obtain rfl : m = 3 := (by omega); rfl) m_len m_sum
    have o_lbx0 : FnOk l.prog w K mg base CX0 2 f17 fd17 ["_law_row_here"] (spLBoxes K 0) := ok_lboxes A17.F ⟨o_inn.mono (by decide), A15.F.kp, b15, g15⟩ ⟨ok_never, A17.F.kp, b17, g17⟩ (fun m h => by omega) m_list
    have o_lbx1 : FnOk l.prog w K mg base CX0 3 f17 fd17 ["_law_row_here"] (spLBoxes K 1) := ok_lboxes A17.F ⟨o_inn.mono (by decide), A15.F.kp, b15, g15⟩ ⟨o_lbx0.mono (by decide), A17.F.kp, b17, g17⟩ (fun m h => by obtain rfl : m = 0 := (by omega); rfl) m_list
    have o_lbx2 : FnOk l.prog w K mg base CX0 4 f17 fd17 ["_law_row_here"] (spLBoxes K 2) := ok_lboxes A17.F ⟨o_inn.mono (by decide), A15.F.kp, b15, g15⟩ ⟨o_lbx1.mono (by decide), A17.F.kp, b17, g17⟩ (fun m h => by obtain rfl : m = 1 := (by omega); rfl) m_list
    have o_lbx3 : FnOk l.prog w K mg base CX0 5 f17 fd17 ["_law_row_here"] (spLBoxes K 3) := ok_lboxes A17.F ⟨o_inn.mono (by decide), A15.F.kp, b15, g15⟩ ⟨o_lbx2.mono (by decide), A17.F.kp, b17, g17⟩ (fun m h => by obtain rfl : m = 2 := (by omega); rfl) m_list
    have o_lbx4 : FnOk l.prog w K mg base CX0 6 f17 fd17 ["_law_row_here"] (spLBoxes K 4) := ok_lboxes A17.F ⟨o_inn.mono (by decide), A15.F.kp, b15, g15⟩ ⟨o_lbx3.mono (by decide), A17.F.kp, b17, g17⟩ (fun m h => by obtain rfl : m = 3 := (by omega); rfl) m_list
    have o_right3 : FnOk l.prog w K mg base CX0 6 f18 fd18 ["_law_row_here"] (spRight K T 3) := ok_right A18.F ⟨o_words.mono (by decide), k0, bW, gW⟩ ⟨o_many3.mono (by decide), A16.F.kp, b16, g16⟩ ⟨o_lbx3.mono (by decide), A17.F.kp, b17, g17⟩ ⟨o_bin.mono (by decide), A3.F.kp, b3, g3⟩ m_isinstance m_int m_bool m_set m_sorted m_tuple
    have o_right4 : FnOk l.prog w K mg base CX0 7 f18 fd18 ["_law_row_here"] (spRight K T 4) := ok_right A18.F ⟨o_words.mono (by decide), k0, bW, gW⟩ ⟨o_many4.mono (by decide), A16.F.kp, b16, g16⟩ ⟨o_lbx4.mono (by decide), A17.F.kp, b17, g17⟩ ⟨o_bin.mono (by decide), A3.F.kp, b3, g3⟩ m_isinstance m_int m_bool m_set m_sorted m_tuple
    exact ok_law (k := 13) FL ⟨o_deck.mono (by decide), A6.F.kp, b6, g6⟩ ⟨o_kit.mono (by decide), A9.F.kp, b9, g9⟩ ⟨o_prog.mono (by decide), A14.F.kp, b14, g14⟩ ⟨o_def.mono (by decide), A4.F.kp, b4, g4⟩ ⟨o_rof.mono (by decide), A5.F.kp, b5, g5⟩ ⟨o_right3.mono (by decide), A18.F.kp, b18, g18⟩ ⟨o_right4.mono (by decide), A18.F.kp, b18, g18⟩ m_len m_range m_max m_min
end K03

open PySem PySem.W PyProof.Rows
set_option maxRecDepth 100000 in
set_option maxHeartbeats 0 in
theorem PySem.Challenge.cw_wipeways_k03_words_counted_holds : PySem.Challenge.rw_wipeways_k03_words_counted.Holds := by
  w_on; o_law; k_head; (case hw => w_witness2)
  k_fill
  refine Kk.walkT (l := PySem.Challenge.rw_wipeways_k03_words_counted) (m := 63) (lev := 14) (x := "_law_script") rfl (by decide) rfl ⟨rfl, by decide, by decide⟩ (fun w h Y => PySem.W.kIn_of Y) ?F
  case F =>
    intro w mg mb mean fa h KX top hmg
    refine' K03.all_mk KX top hmg ?a0 ?l0 ?c0 ?k0 (K03.at_mk ?b0 ?l_0 ?c_0 ?k_0) (K03.at_mk ?b1 ?l_1 ?c_1 ?k_1) (K03.at_mk ?b2 ?l_2 ?c_2 ?k_2) (K03.at_mk ?b3 ?l_3 ?c_3 ?k_3) (K03.at_mk ?b4 ?l_4 ?c_4 ?k_4) (K03.at_mk ?b5 ?l_5 ?c_5 ?k_5) (K03.at_mk ?b6 ?l_6 ?c_6 ?k_6) (K03.at_mk ?b7 ?l_7 ?c_7 ?k_7) (K03.at_mk ?b8 ?l_8 ?c_8 ?k_8) (K03.at_mk ?b9 ?l_9 ?c_9 ?k_9) (K03.at_mk ?b10 ?l_10 ?c_10 ?k_10) (K03.at_mk ?b11 ?l_11 ?c_11 ?k_11) (K03.at_mk ?b12 ?l_12 ?c_12 ?k_12) (K03.at_mk ?b13 ?l_13 ?c_13 ?k_13) (K03.at_mk ?b14 ?l_14 ?c_14 ?k_14) (K03.at_mk ?b15 ?l_15 ?c_15 ?k_15) (K03.at_mk ?b16 ?l_16 ?c_16 ?k_16) (K03.at_mk ?b17 ?l_17 ?c_17 ?k_17) (K03.at_mk ?b18 ?l_18 ?c_18 ?k_18) ?aL ?lL ?cL ?kL ?rn ?lc ?v11 ?tbn ?gF ?lF ?kl (K03.fmA_mk ?n0 ?t0 ?s0 ?u0) (K03.fmA_mk ?n1 ?t1 ?s1 ?u1) (K03.fmA_mk ?n2 ?t2 ?s2 ?u2) (K03.fmA_mk ?n3 ?t3 ?s3 ?u3) (K03.fmA_mk ?n4 ?t4 ?s4 ?u4) (K03.fmA_mk ?n5 ?t5 ?s5 ?u5) (K03.fmA_mk ?n6 ?t6 ?s6 ?u6) (K03.fmA_mk ?n7 ?t7 ?s7 ?u7) (K03.fmA_mk ?n8 ?t8 ?s8 ?u8) (K03.fmA_mk ?n9 ?t9 ?s9 ?u9) (K03.fmA_mk ?n10 ?t10 ?s10 ?u10) (K03.fmA_mk ?n11 ?t11 ?s11 ?u11) (K03.fmA_mk ?n12 ?t12 ?s12 ?u12) (K03.fmA_mk ?n13 ?t13 ?s13 ?u13) (K03.fmA_mk ?n14 ?t14 ?s14 ?u14) (K03.fmA_mk ?n15 ?t15 ?s15 ?u15) (K03.fmA_mk ?n16 ?t16 ?s16 ?u16) ?z0 ?z1 ?z2 ?z3 ?z4 ?z5 ?z6 ?z7 ?z8 ?z9 ?z10 ?z11 ?z12
    (case a0 => k_is); (case l0 => k_is); (case c0 => k_is); (case k0 => k_is)
    (case b0 => k_is); (case l_0 => k_is); (case c_0 => k_is); (case k_0 => k_is)
    (case b1 => k_is); (case l_1 => k_is); (case c_1 => k_is); (case k_1 => k_is)
    (case b2 => k_is); (case l_2 => k_is); (case c_2 => k_is); (case k_2 => k_is)
    (case b3 => k_is); (case l_3 => k_is); (case c_3 => k_is); (case k_3 => k_is)
    (case b4 => k_is); (case l_4 => k_is); (case c_4 => k_is); (case k_4 => k_is)
    (case b5 => k_is); (case l_5 => k_is); (case c_5 => k_is); (case k_5 => k_is)
    (case b6 => k_is); (case l_6 => k_is); (case c_6 => k_is); (case k_6 => k_is)
    (case b7 => k_is); (case l_7 => k_is); (case c_7 => k_is); (case k_7 => k_is)
    (case b8 => k_is); (case l_8 => k_is); (case c_8 => k_is); (case k_8 => k_is)
    (case b9 => k_is); (case l_9 => k_is); (case c_9 => k_is); (case k_9 => k_is)
    (case b10 => k_is); (case l_10 => k_is); (case c_10 => k_is); (case k_10 => k_is)
    (case b11 => k_is); (case l_11 => k_is); (case c_11 => k_is); (case k_11 => k_is)
    (case b12 => k_is); (case l_12 => k_is); (case c_12 => k_is); (case k_12 => k_is)
    (case b13 => k_is); (case l_13 => k_is); (case c_13 => k_is); (case k_13 => k_is)
    (case b14 => k_is); (case l_14 => k_is); (case c_14 => k_is); (case k_14 => k_is)
    (case b15 => k_is); (case l_15 => k_is); (case c_15 => k_is); (case k_15 => k_is)
    (case b16 => k_is); (case l_16 => k_is); (case c_16 => k_is); (case k_16 => k_is)
    (case b17 => k_is); (case l_17 => k_is); (case c_17 => k_is); (case k_17 => k_is)
    (case b18 => k_is); (case l_18 => k_is); (case c_18 => k_is); (case k_18 => k_is)
    (case aL => k_is); (case lL => k_is); (case cL => k_is); (case kL => k_is)
    (case gF => k_is); (case lF => k_is)
    (case n0 => k_is); (case t0 => k_is)
    (case n1 => k_is); (case t1 => k_is)
    (case n2 => k_is); (case t2 => k_is)
    (case n3 => k_is); (case t3 => k_is)
    (case n4 => k_is); (case t4 => k_is)
    (case n5 => k_is); (case t5 => k_is)
    (case n6 => k_is); (case t6 => k_is)
    (case n7 => k_is); (case t7 => k_is)
    (case n8 => k_is); (case t8 => k_is)
    (case n9 => k_is); (case t9 => k_is)
    (case n10 => k_is); (case t10 => k_is)
    (case n11 => k_is); (case t11 => k_is)
    (case n12 => k_is); (case t12 => k_is)
    (case n13 => k_is); (case t13 => k_is)
    (case n14 => k_is); (case t14 => k_is)
    (case n15 => k_is); (case t15 => k_is)
    (case n16 => k_is); (case t16 => k_is)
    (case z0 => k_is); (case z1 => k_is); (case z2 => k_is); (case z3 => k_is); (case z4 => k_is); (case z5 => k_is); (case z6 => k_is); (case z7 => k_is); (case z8 => k_is); (case z9 => k_is); (case z10 => k_is); (case z11 => k_is); (case z12 => k_is)
    (case lc => k_is); (case v11 => rfl); (case tbn => first | rfl | k_is | kernel_rfl)
    (case rn => rfl)
    (case kl => exact ⟨⟨_, _, rfl, rfl⟩, ⟨⟨_, _, rfl, rfl⟩, ⟨⟨_, _, rfl, rfl⟩, ⟨⟨_, _, rfl, rfl⟩, ⟨⟨_, _, rfl, rfl⟩, ⟨⟨_, _, rfl, rfl⟩, ⟨⟨_, _, rfl, rfl⟩, ⟨⟨_, _, rfl, rfl⟩, ⟨⟨_, _, rfl, rfl⟩, ⟨⟨_, _, rfl, rfl⟩, ⟨⟨_, _, rfl, rfl⟩, ⟨⟨_, _, rfl, rfl⟩, ⟨⟨_, _, rfl, rfl⟩, ⟨⟨_, _, rfl, rfl⟩, ⟨⟨_, _, rfl, rfl⟩, ⟨⟨_, _, rfl, rfl⟩, ⟨⟨_, _, rfl, rfl⟩, trivial⟩⟩⟩⟩⟩⟩⟩⟩⟩⟩⟩⟩⟩⟩⟩⟩⟩)
    (case s0 => decide); (case u0 => exact .cons ⟨_, rfl⟩ (.cons ⟨_, rfl⟩ (.nil)))
    (case s1 => decide); (case u1 => exact .cons ⟨_, rfl⟩ (.nil))
    (case s2 => decide); (case u2 => exact .cons ⟨_, rfl⟩ (.cons ⟨_, rfl⟩ (.nil)))
    (case s3 => decide); (case u3 => exact .cons ⟨_, rfl⟩ (.cons ⟨_, rfl⟩ (.nil)))
    (case s4 => decide); (case u4 => exact .cons ⟨_, rfl⟩ (.cons ⟨_, rfl⟩ (.cons ⟨_, rfl⟩ (.nil))))
    (case s5 => decide); (case u5 => exact .cons ⟨_, rfl⟩ (.cons ⟨_, rfl⟩ (.nil)))
    (case s6 => decide); (case u6 => exact .cons ⟨_, rfl⟩ (.nil))
    (case s7 => decide); (case u7 => exact .cons ⟨_, rfl⟩ (.nil))
    (case s8 => decide); (case u8 => exact .cons ⟨_, rfl⟩ (.nil))
    (case s9 => decide); (case u9 => exact .cons ⟨_, rfl⟩ (.nil))
    (case s10 => decide); (case u10 => exact .cons ⟨_, rfl⟩ (.nil))
    (case s11 => decide); (case u11 => exact .cons ⟨_, rfl⟩ (.nil))
    (case s12 => decide); (case u12 => exact .cons ⟨_, rfl⟩ (.nil))
    (case s13 => decide); (case u13 => exact .cons ⟨_, rfl⟩ (.nil))
    (case s14 => decide); (case u14 => exact .cons ⟨_, rfl⟩ (.nil))
    (case s15 => decide); (case u15 => exact .cons ⟨_, rfl⟩ (.cons ⟨_, rfl⟩ (.cons ⟨_, rfl⟩ (.nil))))
    (case s16 => decide); (case u16 => exact .nil)

